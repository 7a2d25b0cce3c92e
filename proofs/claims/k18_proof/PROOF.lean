import PyProof.Rows.All
import Wide.All
import OpenK.AllK
import Wide.FinOn
import HandS.ForMost
import HandS.TupAny
import HandS.TupMul
import HandS.Conv
import HandS.Wide
import HandS.Style
import HandS.HeadHook1
import HandS.Lambda
import HandS.IsInst
import HandS.Zip
import HandS.Dict
import KE.GoesEnum
import OpenK.KOps
import HandS.List
import HandS.Ends
import HandS.HeadEnd
import HandS.Exc
import HandS.ExcOwn
import HandS.CallSlots
import HandS.WordsExc
import KE.KExcInit
import KE.KTryMore
import KE.KExcIs
import HandS.ExcIs
import HandS.ExcField
import HandS.EndTab
import HandS.HeadHook4
import HandS.Small
import HandS.Iter
import HandS.TupSets
import PyProof.Rows.TupTab
import HandS.More
import HandS.HeadHook3
import HandS.NoneIn
import HandS.Star
import HandS.OwnEq
import PyProof.InstNe
import HandS.ExcValue
import KE.SortData
import KE.SortKeyHeap
import KE.KSortKey
import HandS.SetBool
import HandS.RevRange
import HandS.GenList
import HandS.SetFor
import HandS.Strs
import HandS.MakeKwOnly
import HandS.Rev
import KE.KDictDisplayH
import HandS.Sort
import HandS.Deep
import HandS.Text
import PySem.Challenge.RW_bondwords_k18_whole_shortest_words_liste
import KE.KStateDown
import HandS.Head0
import HandS.Head1
import HandS.Head2
namespace DL
end DL
namespace L2
end L2
namespace PySem
end PySem
section
set_option Elab.async false
set_option linter.all false
set_option maxRecDepth 100000
namespace DL
open PySem L2
open PySem.W (Frag)
def wo (H : Hp) (X : List Addr) : Hp := fun a => if a ∈ X then none else match H a with
  | some (.tbl _) => none
  | o => o
end DL
set_option maxHeartbeats 2000000
set_option maxHeartbeats 1000000
set_option maxHeartbeats 1000000
set_option maxHeartbeats 1000000
set_option maxHeartbeats 1000000
set_option maxHeartbeats 1000000
set_option maxHeartbeats 1000000
set_option maxHeartbeats 1000000
set_option maxHeartbeats 1000000
set_option maxHeartbeats 1000000
set_option maxHeartbeats 1000000
namespace BW
open PySem L2 DL
open PySem.W (Frag)
def tupIs (K : Frag) (v : Value) (ns : List Int) : Bool := match v with
  | .ref b => (match K.lookup b with
    | some ⟨.type c, _, .seq its _, _⟩ => decide (c = "tuple") && (decide (its.size ≤ sizeLine) && He.relAll (ns.map V.int) its.toList)
    | _ => false)
  | _ => false
def entB (K : Frag) : List DictEntry → List (Int × List Int) → Bool
  | [], [] => true
  | e :: es, (k, ns) :: r => (match e.key with | .int j _ => decide (j = k) && decide (e.hash = hashInt k) | _ => false) && (tupIs K e.val ns && entB K es r)
  | _, _ => false
def kdB (K : Frag) (x : PySem.Str) (kvs : List (Int × List Int)) : Bool := match K.lookup (He.ga K x) with
  | some ⟨.type c, none, .dict es _, sl⟩ => decide (c = "dict") && (sl.isEmpty && (!(He.ga K x == sysModules) && entB K es.toList kvs))
  | _ => false
end BW
set_option maxHeartbeats 1000000
set_option maxHeartbeats 1000000
set_option autoImplicit false
set_option maxHeartbeats 1000000
set_option maxHeartbeats 1000000
set_option maxHeartbeats 1000000
set_option maxHeartbeats 1000000
set_option maxHeartbeats 1000000
set_option maxHeartbeats 1000000
set_option maxHeartbeats 1000000
set_option maxHeartbeats 1000000
set_option autoImplicit false
set_option maxHeartbeats 1000000
set_option maxHeartbeats 1000000
set_option maxHeartbeats 1000000
set_option maxHeartbeats 1000000
set_option maxHeartbeats 1000000
set_option maxHeartbeats 1000000
set_option maxHeartbeats 1000000
set_option maxHeartbeats 1000000
set_option maxHeartbeats 1000000
set_option maxHeartbeats 1000000
set_option autoImplicit false
set_option maxHeartbeats 1000000
set_option maxHeartbeats 1000000
set_option maxHeartbeats 1000000
set_option maxHeartbeats 1000000
set_option maxHeartbeats 1000000
set_option maxHeartbeats 1000000
set_option maxHeartbeats 1000000
set_option maxHeartbeats 1000000
set_option maxHeartbeats 1000000
set_option maxHeartbeats 1000000
set_option maxHeartbeats 1000000
set_option autoImplicit false
set_option maxHeartbeats 1000000
set_option maxHeartbeats 1000000
set_option autoImplicit false
set_option maxHeartbeats 1000000
set_option maxHeartbeats 1000000
set_option maxHeartbeats 1000000
set_option autoImplicit false
set_option maxHeartbeats 1000000
set_option maxHeartbeats 1000000
set_option maxHeartbeats 1000000
set_option maxHeartbeats 1000000
set_option maxHeartbeats 1000000
set_option maxHeartbeats 1000000
set_option maxHeartbeats 1000000
set_option maxHeartbeats 1000000
set_option maxHeartbeats 1000000
set_option maxHeartbeats 1000000
set_option maxHeartbeats 1000000
set_option maxHeartbeats 1000000
set_option maxHeartbeats 1000000
set_option maxHeartbeats 1000000
set_option autoImplicit false
set_option maxHeartbeats 1000000
set_option autoImplicit false
set_option maxHeartbeats 1000000
set_option autoImplicit false
set_option maxHeartbeats 1000000
set_option autoImplicit false
set_option maxHeartbeats 1000000
set_option autoImplicit false
set_option maxHeartbeats 1000000
set_option maxHeartbeats 1000000
set_option maxHeartbeats 1000000
set_option maxHeartbeats 2000000
set_option maxHeartbeats 2000000
set_option maxHeartbeats 2000000
set_option maxHeartbeats 2000000
set_option maxHeartbeats 2000000
set_option maxHeartbeats 1000000
set_option maxHeartbeats 1000000
set_option maxHeartbeats 1000000
set_option maxHeartbeats 1000000
set_option maxHeartbeats 1000000
set_option maxHeartbeats 1000000
set_option maxHeartbeats 1000000
set_option maxHeartbeats 1000000
set_option maxHeartbeats 1000000
set_option maxHeartbeats 1000000
set_option maxHeartbeats 1000000
set_option maxHeartbeats 1000000
set_option maxHeartbeats 1000000
set_option maxHeartbeats 1600000
set_option maxHeartbeats 1600000
set_option maxHeartbeats 1000000
set_option maxHeartbeats 1000000
set_option maxHeartbeats 1000000
set_option maxHeartbeats 1000000
set_option maxHeartbeats 1000000
set_option maxHeartbeats 3200000
set_option maxHeartbeats 1000000
set_option maxHeartbeats 1000000
set_option maxHeartbeats 1000000
set_option maxHeartbeats 1000000
set_option maxHeartbeats 1000000
set_option maxHeartbeats 1000000
set_option maxHeartbeats 1000000
set_option maxHeartbeats 1000000
set_option maxHeartbeats 1000000
set_option maxHeartbeats 1000000
set_option maxHeartbeats 1000000
set_option maxHeartbeats 1000000
set_option maxHeartbeats 1000000
set_option maxHeartbeats 1000000
set_option maxHeartbeats 1000000
set_option maxHeartbeats 1000000
set_option maxHeartbeats 1000000
set_option maxHeartbeats 1000000
set_option maxHeartbeats 1000000
set_option maxHeartbeats 1000000
set_option maxHeartbeats 1000000
set_option maxHeartbeats 1000000
set_option maxHeartbeats 1000000
set_option maxHeartbeats 1000000
set_option maxHeartbeats 1000000
set_option maxHeartbeats 1000000
set_option maxHeartbeats 1000000
set_option maxHeartbeats 1000000
set_option maxHeartbeats 1000000
set_option maxHeartbeats 1000000
set_option maxHeartbeats 1000000
set_option maxHeartbeats 1000000
set_option maxHeartbeats 1000000
set_option maxHeartbeats 1000000
set_option maxHeartbeats 1000000
set_option maxHeartbeats 1000000
set_option maxHeartbeats 1000000
set_option maxHeartbeats 1000000
set_option maxHeartbeats 1000000
namespace BW
open PySem L2 DL
def top (i : Nat) : Stmt := PySem.Challenge.pw_bondwords_k18_whole_shortest_words_liste.main.body.getD i (.Pass ⟨0, 0, 0, 0⟩)
end BW
namespace BW
open PySem L2 DL
def memS (i j : Nat) : Stmt := match top i with
  | .ClassDef _ _ _ body .. => body.getD j (.Pass ⟨0, 0, 0, 0⟩)
  | _ => .Pass ⟨0, 0, 0, 0⟩
end BW
namespace BW
open PySem L2 DL
abbrev dd (x : PySem.Str) (i : Nat) : He.DefD := ⟨(x, none), x, x, defArgs (top i), defBody (top i), defScope (top i), [], []⟩
abbrev dm (x m q : PySem.Str) (i j : Nat) : He.DefD := ⟨(x, some m), m, q, defArgs (memS i j), defBody (memS i j), defScope (memS i j), [], []⟩
def fn : List He.DefD := [dd "is_whole" 14, dd "is_letter" 15, dd "can_stand" 17, dd "check_shape" 18, dd "check_table" 19, dd "weight_of" 20, dd "weights_from" 21, dd "as_word" 24, dd "first_row" 26, dd "pressed" 27, dd "row_behind" 28, dd "fallen" 29, dd "way_down" 30, dd "row_of" 31, dd "length" 32, dd "check_led" 35, dd "is_shortest" 36, dd "row_to_spell" 38, dd "counted" 39, dd "count_shortest" 40, dd "shortest_words" 41, dd "word_at" 42, dd "word_number" 43, dd "_law_mixed" 45, dd "_law_folded" 46, dd "_law_draw" 47, dd "_law_begun" 48, dd "_law_table" 49, dd "_law_weight" 50, dd "_law_press" 51, dd "_law_row" 52, dd "_law_below" 53, dd "_law_least" 54, dd "_law_word" 55, dd "_law_stretch" 56, dd "_law_moved" 57, dd "_law_turned_all" 58, dd "law" 59, dm "Bonds" "__init__" "Bonds.__init__" 22 0, dm "Bonds" "__len__" "Bonds.__len__" 22 1]
def fa : List He.Fa := [.glo "is_whole", .glo "is_letter", .glo "can_stand", .glo "check_shape", .glo "check_table", .glo "weight_of", .glo "weights_from", .glo "as_word", .glo "first_row", .glo "pressed", .glo "row_behind", .glo "fallen", .glo "way_down", .glo "row_of", .glo "length", .glo "check_led", .glo "is_shortest", .glo "row_to_spell", .glo "counted", .glo "count_shortest", .glo "shortest_words", .glo "word_at", .glo "word_number", .glo "_law_mixed", .glo "_law_folded", .glo "_law_draw", .glo "_law_begun", .glo "_law_table", .glo "_law_weight", .glo "_law_press", .glo "_law_row", .glo "_law_below", .glo "_law_least", .glo "_law_word", .glo "_law_stretch", .glo "_law_moved", .glo "_law_turned_all", .glo "law", .free "isinstance", .free "int", .free "bool", .free "list", .free "tuple", .free "len", .free "range", .free "enumerate", .free "zip", .free "sum", .free "sorted", .free "repr", .free "reversed", .int "MOST_LETTERS" (6), .int "MOST_WORD" (60), .int "OWN_BOND" (1), .int "OWN_WEIGHT" (-2), .int "MOST_LED" (16), .glo "Bonds", .cls "Bonds", .noat "Bonds" "table", .noat "Bonds" "weights", .mkr "Bonds", .meth "Bonds" "__len__", .glo "WEIGHTS", .glo "BondError", .glo "BadBonds", .glo "BadWord", .glo "BadNumber", .glo "Unlike", .glo "TooGreat"]
def wts0 : List (Int × List Int) := [(2, [0, 0]), (3, [1, 1]), (4, [1, 2]), (6, [1, 3]), (0, [2, 2])]
def tabL : List He.Tab := []
abbrev lamL : List ((PySem.Str × Option PySem.Str) × PySem.Str) := []
abbrev tfL : List (PySem.Str × Option PySem.Str) := []
def ndB (K : PySem.W.Frag) : Bool := decide ((lamL.map fun x => (He.cT K x.1).2).Nodup)
def exB (K : PySem.W.Frag) : Bool := kdB K "WEIGHTS" wts0 && (ndB K && ((((((true)))))))
abbrev R : PySem.W.OpenRow := PySem.W.OpenLaw.row PySem.Challenge.rw_bondwords_k18_whole_shortest_words_liste
abbrev hk : PySem.W.Hook := He.hookX 4 fa fn tabL tfL exB
def ob (s : PySem.W.SharedT) : He.AlX := He.obsX 4 fa fn tabL tfL exB (HandSHeadRun.getT s)
def names0 : List PySem.Str := ["_wall", "__name__", "BondError", "BadBonds", "BadWord", "BadNumber", "Unlike", "TooGreat", "MOST_LETTERS", "MOST_WORD", "WEIGHTS", "OWN_BOND", "OWN_WEIGHT", "is_whole", "is_letter", "check_letters", "can_stand", "check_shape", "check_table", "weight_of", "weights_from", "Bonds", "as_word", "first_row", "pressed", "row_behind", "fallen", "way_down", "row_of", "length"]
def names1 : List PySem.Str := ["MOST_LED", "check_led", "is_shortest", "row_to_spell", "counted", "count_shortest", "shortest_words", "word_at", "word_number", "_law_mixed", "_law_folded", "_law_draw", "_law_begun", "_law_table", "_law_weight", "_law_press", "_law_row", "_law_below", "_law_least", "_law_word", "_law_stretch", "_law_moved", "_law_turned_all"]
abbrev names : List PySem.Str := names0 ++ names1
end BW
set_option maxHeartbeats 0
namespace BW
open PySem PySem.Spec PyProof.Rows L2
abbrev PR (w : World) : Prop := HandSHeadRun.RunEq R (PySem.W.view R.prog [59]) hk ob 6000 names w
theorem run0 (w : World) : PR (w.withFollow "special-get-raises" false) := fun os => by kernel_rfl
theorem run1 (w : World) : PR (w.withFollow "special-get-raises" true) := fun os => by kernel_rfl
end BW
open PySem PySem.W PyProof.Rows
end
set_option Elab.async false
set_option linter.all false
set_option maxRecDepth 100000
namespace DL
open PySem L2
open PySem.W (Frag)
inductive D where
  | non | bl (b : Bool) | int (i : Int) | str (x : PySem.Str)
  | lst (xs : List D) | tup (xs : List D) | dic | ins (C : Addr) (ns : List PySem.Str) (xs : List D)
  | exc (n : PySem.Str) (ns : List PySem.Str) (xs : List D)
def xob (a : Addr) (cls : Value) (dd : Option Addr) : HO := .ext fun h => ∃ oe vs, h.get? a = some oe ∧ (oe.cls = cls ∧ oe.dict = dd) ∧ oe.data = .fields vs
def ExF (H : Hp) (dd : Option Addr) (ns : List PySem.Str) (vs : List V) : Prop := (ns = [] ∧ dd = none) ∨ ∃ d, dd = some d ∧ H d = some (.xd (ns.zip vs))
mutual
inductive Rl (K : Frag) (H : Hp) : V → D → Prop
  | non : Rl K H .non .non
  | bl (b : Bool) : Rl K H (.bl b) (.bl b)
  | int (i : Int) : Rl K H (.int i) (.int i)
  | str (x : PySem.Str) : Rl K H (.str x) (.str x)
  | lst {a : Addr} {vs : List V} {ds : List D} : H a = some (.lst vs) → RlA K H vs ds → Rl K H (.ref a) (.lst ds)
  | tup {a : Addr} {vs : List V} {ds : List D} : SqT K H a vs → RlA K H vs ds → Rl K H (.ref a) (.tup ds)
  | dic {a : Addr} : H a = some (.dK []) → Rl K H (.ref a) .dic
  | ins {a C dx : Addr} {ns : List PySem.Str} {vs : List V} {ds : List D} : H a = some (.ins C dx (ns.zip vs)) → ns.length = vs.length → RlA K H vs ds → Rl K H (.ref a) (.ins C ns ds)
  | exc {a : Addr} {n : PySem.Str} {dd : Option Addr} {ns : List PySem.Str} {vs : List V} {ds : List D} : H a = some (xob a (.ref (He.ga K n)) dd) → ExF H dd ns vs → ns.length = vs.length → RlA K H vs ds → Rl K H (.ref a) (.exc n ns ds)
inductive RlA (K : Frag) (H : Hp) : List V → List D → Prop
  | nil : RlA K H [] []
  | cons {v : V} {vs : List V} {d : D} {ds : List D} : Rl K H v d → RlA K H vs ds → RlA K H (v :: vs) (d :: ds)
end
def Sub (A B : Hp) : Prop := ∀ a o, A a = some o → B a = some o
theorem Sub.refl (A : Hp) : Sub A A := fun _ _ h => h
theorem Sub.trans {A B C : Hp} (x : Sub A B) (y : Sub B C) : Sub A C := fun a o h => y a o (x a o h)
theorem Sub.rd {A B : Hp} (x : Sub A B) {a : Addr} {u : HO} (h : Rd A a u) : Rd B a u := by
  rcases h with h | ⟨o, h⟩
  · exact .inl (x _ _ h)
  · exact .inr ⟨o, x _ _ h⟩
theorem Sub.sl {K : Frag} {A B : Hp} (x : Sub A B) {a : Addr} {vs : List V} (h : SqL K A a vs) : SqL K B a vs := by
  rcases h with h | h
  · exact .inl (x.rd h)
  · exact .inr h
theorem Sub.st {K : Frag} {A B : Hp} (x : Sub A B) {a : Addr} {vs : List V} (h : SqT K A a vs) : SqT K B a vs := by
  rcases h with h | h
  · exact .inl (x.rd h)
  · exact .inr h
theorem ExF.mono {A B : Hp} (x : Sub A B) {dd : Option Addr} {ns : List PySem.Str} {vs : List V} (h : ExF A dd ns vs) : ExF B dd ns vs := h.imp id fun ⟨d, e, q⟩ => ⟨d, e, x _ _ q⟩
mutual
theorem Rl.mono {K : Frag} {A B : Hp} (x : Sub A B) : ∀ {v : V} {d : D}, Rl K A v d → Rl K B v d
  | _, _, .non => .non
  | _, _, .bl b => .bl b
  | _, _, .int i => .int i
  | _, _, .str s => .str s
  | _, _, .lst h r => .lst (x _ _ h) (RlA.mono x r)
  | _, _, .tup h r => .tup (x.st h) (RlA.mono x r)
  | _, _, .dic h => .dic (x _ _ h)
  | _, _, .ins h l r => .ins (x _ _ h) l (RlA.mono x r)
  | _, _, .exc h f l r => .exc (x _ _ h) (f.mono x) l (RlA.mono x r)
theorem RlA.mono {K : Frag} {A B : Hp} (x : Sub A B) : ∀ {vs : List V} {ds : List D}, RlA K A vs ds → RlA K B vs ds
  | _, _, .nil => .nil
  | _, _, .cons h r => .cons (Rl.mono x h) (RlA.mono x r)
end
theorem RlA.len {K : Frag} {A : Hp} : ∀ {vs : List V} {ds : List D}, RlA K A vs ds → vs.length = ds.length
  | _, _, .nil => rfl
  | _, _, .cons _ r => congrArg (· + 1) (RlA.len r)
theorem RlA.get {K : Frag} {A : Hp} : ∀ {vs : List V} {ds : List D} {i : Nat} {v : V}, RlA K A vs ds → vs[i]? = some v → ∃ d, ds[i]? = some d ∧ Rl K A v d
  | _, _, _, _, .nil, e => by simp at e
  | _, _, 0, _, .cons h _, e => by simp at e; subst e; exact ⟨_, rfl, h⟩
  | _, _, i + 1, v, .cons _ r, e => by
    obtain ⟨d, h1, h2⟩ := RlA.get (i := i) (v := v) r (by simpa using e)
    exact ⟨d, by simpa using h1, h2⟩
theorem RlA.getD {K : Frag} {A : Hp} : ∀ {vs : List V} {ds : List D} {i : Nat} {d : D}, RlA K A vs ds → ds[i]? = some d → ∃ v, vs[i]? = some v ∧ Rl K A v d
  | _, _, _, _, .nil, e => by simp at e
  | _, _, 0, _, .cons h _, e => by simp at e; subst e; exact ⟨_, rfl, h⟩
  | _, _, i + 1, d, .cons _ r, e => by
    obtain ⟨v, h1, h2⟩ := RlA.getD (i := i) (d := d) r (by simpa using e)
    exact ⟨v, by simpa using h1, h2⟩
theorem RlA.app {K : Frag} {A : Hp} : ∀ {vs us : List V} {ds es : List D}, RlA K A vs ds → RlA K A us es → RlA K A (vs ++ us) (ds ++ es)
  | _, _, _, _, .nil, s => s
  | _, _, _, _, .cons h r, s => .cons h (RlA.app r s)
theorem RlA.take {K : Frag} {A : Hp} : ∀ {vs : List V} {ds : List D} (n : Nat), RlA K A vs ds → RlA K A (vs.take n) (ds.take n)
  | _, _, 0, _ => .nil
  | _, _, _ + 1, .nil => .nil
  | _, _, n + 1, .cons h r => .cons h (RlA.take n r)
theorem RlA.drop {K : Frag} {A : Hp} : ∀ {vs : List V} {ds : List D} (n : Nat), RlA K A vs ds → RlA K A (vs.drop n) (ds.drop n)
  | _, _, 0, r => r
  | _, _, _ + 1, .nil => .nil
  | _, _, n + 1, .cons _ r => RlA.drop n r
theorem RlA.set {K : Frag} {A : Hp} {v : V} {d : D} (h : Rl K A v d) : ∀ {vs : List V} {ds : List D} (i : Nat), RlA K A vs ds → RlA K A (vs.set i v) (ds.set i d)
  | _, _, _, .nil => .nil
  | _, _, 0, .cons _ r => .cons h r
  | _, _, i + 1, .cons q r => .cons q (RlA.set h i r)
theorem RlA.rev {K : Frag} {A : Hp} : ∀ {vs : List V} {ds : List D}, RlA K A vs ds → RlA K A vs.reverse ds.reverse
  | _, _, .nil => .nil
  | _, _, .cons h r => by
    rw [List.reverse_cons, List.reverse_cons]
    exact (RlA.rev r).app (.cons h .nil)
theorem RlA.ints {K : Frag} {A : Hp} : ∀ (ns : List Int), RlA K A (ns.map V.int) (ns.map D.int)
  | [] => .nil
  | n :: r => .cons (.int n) (RlA.ints r)
theorem RlA.ints_v {K : Frag} {A : Hp} : ∀ {ns : List Int} {vs : List V}, RlA K A vs (ns.map D.int) → vs = ns.map V.int
  | [], _, .nil => rfl
  | n :: r, _, .cons h q => by
    cases h
    rw [RlA.ints_v q]
    rfl
def NoTb (o : HO) : Prop := ∀ ps, o ≠ .tbl ps
theorem wo_all {H : Hp} {X : List Addr} {a : Addr} {o : HO} (h : wo H X a = some o) : a ∉ X ∧ H a = some o ∧ NoTb o := by
  unfold wo at h
  split at h
  · cases h
  · refine ⟨by assumption, ?_⟩
    split at h
    · cases h
    · rename_i n
      refine ⟨h, fun ps e => ?_⟩
      subst e
      exact n _ h
theorem wo_sub (H : Hp) (X : List Addr) : Sub (wo H X) H := fun a o h => (wo_all h).2.1
theorem wo_ne {H : Hp} {X : List Addr} {a : Addr} {o : HO} (h : wo H X a = some o) : a ∉ X ∧ H a = some o := ⟨(wo_all h).1, (wo_all h).2.1⟩
theorem wo_tb {H : Hp} {X : List Addr} {a : Addr} {o : HO} (h : wo H X a = some o) : NoTb o := (wo_all h).2.2
theorem wo_of {H : Hp} {X : List Addr} {a : Addr} {o : HO} (hx : a ∉ X) (h : H a = some o) (ht : NoTb o := by first | (intro _ z; cases z; done) | exact wo_tb (by assumption)) : wo H X a = some o := by
  unfold wo
  rw [if_neg hx, h]
  cases o <;> first | rfl | exact absurd rfl (ht _)
structure TbK (A B : Hp) : Prop where
  tabs : ∀ T, LamX.Tabs T A → LamX.Tabs T B
  tbl : ∀ p ps, A p = some (.tbl ps) → ∃ qs, B p = some (.tbl qs)
  tup : ∀ a vs, Rd A a (.tup vs) → Rd B a (.tup vs)
theorem TbK.refl {A : Hp} : TbK A A := ⟨fun _ h => h, fun _ _ h => ⟨_, h⟩, fun _ _ h => h⟩
theorem TbK.st {K : Frag} {A B : Hp} (x : TbK A B) {a : Addr} {vs : List V} (h : SqT K A a vs) : SqT K B a vs := h.imp (x.tup a vs) id
theorem TbK.trans {A B C : Hp} (x : TbK A B) (y : TbK B C) : TbK A C := ⟨fun T h => y.tabs T (x.tabs T h), fun p ps h => by
  obtain ⟨qs, e⟩ := x.tbl p ps h
  exact y.tbl p qs e, fun a vs h => y.tup a vs (x.tup a vs h)⟩
def Firm (a : Addr) (o : HO) : Prop := (∃ ps, o = .tbl ps) ∨ (∃ q, o = LamX.CodeO a q) ∨ (∃ vs, o = .tup vs) ∨ ∃ ob vs, o = .frz ob (.tup vs)
theorem TbK.of {A B : Hp} (h : ∀ a o, A a = some o → Firm a o → B a = some o) : TbK A B := ⟨fun T t p hp => by
  obtain ⟨ps, h1, h2, h3⟩ := t p hp
  refine ⟨ps, h _ _ h1 (.inl ⟨_, rfl⟩), h2, fun pos cv hc => ?_⟩
  obtain ⟨c, e1, e2⟩ := h3 pos cv hc
  exact ⟨c, e1, h _ _ e2 (.inr (.inl ⟨_, rfl⟩))⟩, fun p ps e => ⟨ps, h _ _ e (.inl ⟨_, rfl⟩)⟩, fun a vs e => by
  rcases e with e | ⟨o, e⟩
  · exact .inl (h _ _ e (.inr (.inr (.inl ⟨_, rfl⟩))))
  · exact .inr ⟨o, h _ _ e (.inr (.inr (.inr ⟨_, _, rfl⟩)))⟩⟩
theorem TbK.upd {H : Hp} {p : Addr} {o : HO} (h : ∀ u, H p = some u → ¬ Firm p u) : TbK H (upd H p o) := .of fun a u e k => by
  by_cases z : a = p
  · subst z; exact absurd k (h u e)
  · rw [upd_ne z]; exact e
theorem TbK.new {H : Hp} {p : Addr} {o : HO} (h : H p = none) : TbK H (L2.upd H p o) := .upd fun u e => by rw [h] at e; cases e
theorem TbK.at_ {H : Hp} {p : Addr} {o u : HO} (h : H p = some u) (h1 : NoTb u := by intro _ z; cases z) (h2 : ∀ q, u ≠ LamX.CodeO p q := by intro _ z; cases z) (h3 : ∀ vs, u ≠ .tup vs := by intro _ z; cases z) (h4 : ∀ ob vs, u ≠ .frz ob (.tup vs) := by intro _ _ z; cases z) : TbK H (L2.upd H p o) := .upd fun v e => by
  rw [h] at e; cases e
  rintro (⟨ps, z⟩ | ⟨q, z⟩ | ⟨vs, z⟩ | ⟨ob, vs, z⟩)
  · exact h1 _ z
  · exact h2 _ z
  · exact h3 _ z
  · exact h4 _ _ z
theorem wo_more {H : Hp} {X Y : List Addr} (h : ∀ a ∈ X, a ∈ Y) : Sub (wo H Y) (wo H X) := fun a o e => by
  obtain ⟨n, e⟩ := wo_ne e
  exact wo_of (fun z => n (h a z)) e
theorem wo_new {H : Hp} {X : List Addr} {p : Addr} {o : HO} (hp : H p = none) : Sub (wo H X) (wo (upd H p o) X) := fun a u e => by
  obtain ⟨n, e⟩ := wo_ne e
  exact wo_of n (by rw [upd_ne (ne_of_none e hp)]; exact e)
theorem wo_mut {H : Hp} {X : List Addr} {p : Addr} {o : HO} (hp : p ∈ X) : Sub (wo H X) (wo (upd H p o) X) := fun a u e => by
  obtain ⟨n, e⟩ := wo_ne e
  exact wo_of n (by rw [upd_ne (fun z => n (by rw [z]; exact hp))]; exact e)
structure Kn where
  K : Frag
  N : List Int → Int
  Z : List (List Int)
structure Mc where
  (pm pc pg : Addr)
  T : List (Addr × PySem.Str)
  kd : Option Kn := none
def Ml : Option Mc → List Addr
  | none => []
  | some m => [m.pm, m.pc, m.pg]
structure MOk (m : Mc) (H : Hp) (cs gs : List Int) (n : Nat) : Prop where
  hm : H m.pm = some (.dK [(Sum.inr "cells", .ref m.pc), (Sum.inr "great", .ref m.pg), (Sum.inr "spot", .int n)])
  hc : H m.pc = some (.lst (cs.map V.int))
  hg : H m.pg = some (.lst (gs.map V.int))
  lc : cs.length = 64
  bc : ∀ x ∈ cs, 0 ≤ x ∧ x < 2147483647
  lg : gs.length ≤ 63
  bg : ∀ x ∈ gs, 0 ≤ x
def hashT (r : List Int) : Int := reduceHash (Builtin.Tuple.tupleHashOf (r.map hashInt))
def DiE (p : Addr) (L : List (Addr × List Int × Int)) (h : Heap) : Prop := ∃ o es ep, h.get? p = some o ∧ o.ExactDict ∧ o.data = .dict es ep ∧ (p == sysModules) = false ∧ ∃ us : List Value, us.length = L.length ∧ (∀ (i : Nat) (x : Addr × List Int × Int) (u : Value), L[i]? = some x → us[i]? = some u → ∃ t, u = .int x.2.2 t) ∧
  es.toList = (L.zip us).map (fun y => (⟨hashT y.1.2.1, .ref y.1.1, y.2⟩ : DictEntry)) ∧ (L.map (·.2.1)).Nodup
structure KOk (m : Mc) (kn : Kn) (H : Hp) (L : List (Addr × List Int × Int)) : Prop where
  hp : H m.pm = some (.ext (DiE m.pm L))
  pc : m.pc = m.pm
  pg : m.pg = m.pm
  keys : ∀ x ∈ L, SqT kn.K H x.1 (x.2.1.map V.int)
  val : ∀ x ∈ L, x.2.2 = kn.N x.2.1
  z : ∀ x ∈ L, x.2.1 ∈ kn.Z
  nd : (L.map (·.2.1)).Nodup
  lz : kn.Z.length ≤ 100000
  tb : LamX.Tabs m.T H
def MAt (m : Option Mc) (H : Hp) (k : Nat) : Prop := match m with
  | none => True
  | some m => match m.kd with
    | none => ∃ cs gs n, MOk m H cs gs n ∧ n ≤ k ∧ LamX.Tabs m.T H
    | some kn => ∃ L, KOk m kn H L
theorem MAt.dr {m : Mc} {H : Hp} {k : Nat} (hk : m.kd = none) (h : MAt (some m) H k) : ∃ cs gs n, MOk m H cs gs n ∧ n ≤ k ∧ LamX.Tabs m.T H := by
  unfold MAt at h
  dsimp only at h
  rw [hk] at h
  exact h
theorem MAt.of {m : Mc} {H : Hp} {k : Nat} (hk : m.kd = none) (h : ∃ cs gs n, MOk m H cs gs n ∧ n ≤ k ∧ LamX.Tabs m.T H) : MAt (some m) H k := by
  unfold MAt
  dsimp only
  rw [hk]
  exact h
theorem MAt.kn {m : Mc} {kn : Kn} {H : Hp} {k : Nat} (hk : m.kd = some kn) (h : MAt (some m) H k) : ∃ L, KOk m kn H L := by
  unfold MAt at h
  dsimp only at h
  rw [hk] at h
  exact h
theorem MAt.ofK {m : Mc} {kn : Kn} {H : Hp} {k : Nat} (hk : m.kd = some kn) (h : ∃ L, KOk m kn H L) : MAt (some m) H k := by
  unfold MAt
  dsimp only
  rw [hk]
  exact h
theorem MAt.tabs {m : Mc} {H : Hp} {k : Nat} (h : MAt (some m) H k) : LamX.Tabs m.T H := by
  cases e : m.kd with
  | none =>
    obtain ⟨_, _, _, _, _, q⟩ := h.dr e
    exact q
  | some kn =>
    obtain ⟨_, o⟩ := h.kn e
    exact o.tb
theorem MAt.mono {m : Option Mc} {H : Hp} {j k : Nat} (h : MAt m H j) (l : j ≤ k) : MAt m H k := by
  cases m with
  | none => trivial
  | some m =>
    cases e : m.kd with
    | none =>
      obtain ⟨cs, gs, n, o, q⟩ := h.dr e
      exact .of e ⟨cs, gs, n, o, Nat.le_trans q.1 l, q.2⟩
    | some kn => exact .ofK e (h.kn e)
theorem MAt.eq {m : Option Mc} {H H' : Hp} {k : Nat} (h : MAt m H k) (e : ∀ a ∈ Ml m, H a ≠ none → H' a = H a) (t : TbK H H') : MAt m H' k := by
  cases m with
  | none => trivial
  | some m =>
    cases ek : m.kd with
    | none =>
      obtain ⟨cs, gs, n, o, q⟩ := h.dr ek
      have e1 := e m.pm (by simp [Ml]) (by rw [o.hm]; simp)
      have e2 := e m.pc (by simp [Ml]) (by rw [o.hc]; simp)
      have e3 := e m.pg (by simp [Ml]) (by rw [o.hg]; simp)
      exact .of ek ⟨cs, gs, n, ⟨e1.trans o.hm, e2.trans o.hc, e3.trans o.hg, o.lc, o.bc, o.lg, o.bg⟩, q.1, t.tabs _ q.2⟩
    | some kn =>
      obtain ⟨L, o⟩ := h.kn ek
      have e1 := e m.pm (by simp [Ml]) (by rw [o.hp]; simp)
      exact .ofK ek ⟨L, e1.trans o.hp, o.pc, o.pg, fun x hx => t.st (o.keys x hx), o.val, o.z, o.nd, o.lz, t.tabs _ o.tb⟩
theorem MAt.there {m : Option Mc} {H : Hp} {k : Nat} (h : MAt m H k) : ∀ a ∈ Ml m, H a ≠ none := by
  cases m with
  | none => intro a ha; simp [Ml] at ha
  | some m =>
    cases ek : m.kd with
    | none =>
      obtain ⟨cs, gs, n, o, q⟩ := h.dr ek
      intro a ha
      simp [Ml] at ha
      rcases ha with rfl | rfl | rfl
      · rw [o.hm]; simp
      · rw [o.hc]; simp
      · rw [o.hg]; simp
    | some kn =>
      obtain ⟨L, o⟩ := h.kn ek
      intro a ha
      simp [Ml] at ha
      have : a = m.pm := by
        rcases ha with rfl | rfl | rfl
        · rfl
        · exact o.pc
        · exact o.pg
      rw [this, o.hp]; simp
inductive Sl where
  | no | dat (d : D) | own (p : Addr) (ds : List D) | mst | scr (ns : List Int) | kds (N : List Int → Int) (Z : List (List Int))
structure S where
  X : List Addr
  sl : List Sl
  k : Nat
structure C where
  K : Frag
  M : Option Mc
  X0 : List Addr
  H0 : Hp
  ow : List Nat := []
abbrev C.hid (c : C) (X : List Addr) (H : Hp) : Hp := wo H (Ml c.M ++ X)
def SlOk (c : C) (X : List Addr) (H : Hp) (x : Option (Option V)) : Sl → Prop
  | .no => True
  | .dat d => ∃ v, x = some (some v) ∧ Rl c.K (c.hid X H) v d
  | .own p ds => x = some (some (.ref p)) ∧ p ∈ X ∧ p ∉ c.X0 ∧ c.H0 p = none ∧ ∃ vs, H p = some (.lst vs) ∧ RlA c.K (c.hid X H) vs ds
  | .mst => ∃ m, (c.M = some m ∧ m.kd = none) ∧ x = some (some (.ref m.pm))
  | .kds N Z => ∃ m, (c.M = some m ∧ m.kd = some ⟨c.K, N, Z⟩) ∧ x = some (some (.ref m.pm))
  | .scr ns => ∃ a, x = some (some (.ref a)) ∧ SqL c.K (c.hid X H) a (ns.map V.int)
structure Rep (c : C) (s : S) (σ : L2.St) (H : Hp) : Prop where
  sub : Sub (c.hid c.X0 c.H0) (c.hid s.X H)
  old : ∀ a ∈ c.X0, a ∉ Ml c.M → c.H0 a ≠ none → H a = c.H0 a
  x0 : ∀ a ∈ c.X0, a ∈ s.X
  xm : ∀ a ∈ s.X, a ∉ Ml c.M
  xs : ∀ a ∈ s.X, H a ≠ none
  m : MAt c.M H s.k
  slot : ∀ (i : Nat) (x : Sl), s.sl[i]? = some x → SlOk c s.X H σ[i]? x
  apart : ∀ (i j : Nat) (p q : Addr) (ds es : List D), s.sl[i]? = some (.own p ds) → s.sl[j]? = some (.own q es) → i ≠ j → p ≠ q
  len : s.sl.length = σ.length
  tb : TbK c.H0 H
  xt : ∀ a ∈ s.X, ∀ ps, H a ≠ some (.tbl ps)
def Adv (c : C) (s : S) (H : Hp) (s' : S) (H' : Hp) : Prop := Sub (c.hid s.X H) (c.hid s'.X H')
theorem Adv.refl {c : C} {s : S} {H : Hp} : Adv c s H s H := Sub.refl _
abbrev S.at (s : S) (k : Nat) : S := { s with k := k }
theorem Rep.more {c : C} {s : S} {σ : L2.St} {H : Hp} {k : Nat} (r : Rep c s σ H) (h : s.k ≤ k) : Rep c (s.at k) σ H := ⟨r.sub, r.old, r.x0, r.xm, r.xs, r.m.mono h, r.slot, r.apart, r.len, r.tb, r.xt⟩
theorem Rep.step {c : C} {s : S} {σ : L2.St} {H H' : Hp} {k : Nat} (r : Rep c s σ H) (a : Sub (c.hid s.X H) (c.hid s.X H')) (x : ∀ a ∈ s.X, H a ≠ none → H' a = H a) (m : MAt c.M H' k) (tb : TbK c.H0 H') : Rep c (s.at k) σ H' := by
  refine ⟨r.sub.trans a, fun b hb hm hn => ?_, r.x0, r.xm, fun b hb => ?_, m, fun i y e => ?_, r.apart, r.len, tb, fun b hb => by rw [x b hb (r.xs b hb)]; exact r.xt b hb⟩
  · rw [x b (r.x0 b hb) (r.xs b (r.x0 b hb)), r.old b hb hm hn]
  · rw [x b hb (r.xs b hb)]; exact r.xs b hb
  · have q := r.slot i y e
    cases y with
    | no => trivial
    | dat d =>
      obtain ⟨v, e, h⟩ := q
      exact ⟨v, e, h.mono a⟩
    | own p ds =>
      obtain ⟨e, h1, h2, h3, vs, h4, h5⟩ := q
      exact ⟨e, h1, h2, h3, vs, by rw [x p h1 (r.xs p h1)]; exact h4, h5.mono a⟩
    | mst => exact q
    | kds N Z => exact q
    | scr ns =>
      obtain ⟨v, e, h⟩ := q
      exact ⟨v, e, a.sl h⟩
structure AdvE (c : C) (X : List Addr) (H H' : Hp) : Prop where
  sub : Sub (c.hid X H) (c.hid X H')
  own : ∀ a ∈ X, H' a = H a
theorem AdvE.refl {c : C} {X : List Addr} {H : Hp} : AdvE c X H H := ⟨Sub.refl _, fun _ _ => rfl⟩
theorem AdvE.trans {c : C} {X : List Addr} {H H1 H2 : Hp} (a : AdvE c X H H1) (b : AdvE c X H1 H2) : AdvE c X H H2 := ⟨a.sub.trans b.sub, fun x h => (b.own x h).trans (a.own x h)⟩
theorem Rep.new {c : C} {s : S} {σ : L2.St} {H : Hp} {p : Addr} {o : HO} (r : Rep c s σ H) (hp : H p = none) : Rep c s σ (upd H p o) ∧ AdvE c s.X H (upd H p o) := by
  have a : Sub (c.hid s.X H) (c.hid s.X (upd H p o)) := wo_new hp
  have e : ∀ b, H b ≠ none → upd H p o b = H b := fun b h => upd_ne fun z => h (z ▸ hp)
  exact ⟨r.step (k := s.k) a (fun b _ h => e b h) (r.m.eq (fun b hb h => e b h) (.new hp)) (r.tb.trans (.new hp)), a, fun b hb => e b (r.xs b hb)⟩
theorem Rep.free {c : C} {s : S} {σ : L2.St} {H : Hp} {p : Addr} (r : Rep c s σ H) (hp : H p = none) : p ∉ Ml c.M ++ s.X := fun z => by
  rcases List.mem_append.mp z with z | z
  · exact r.m.there p z hp
  · exact r.xs p z hp
theorem Rep.at_new {c : C} {s : S} {σ : L2.St} {H : Hp} {p : Addr} {o : HO} (r : Rep c s σ H) (hp : H p = none) (ht : NoTb o := by intro _ z; cases z) : (c.hid s.X (upd H p o)) p = some o := wo_of (r.free hp) upd_same ht
end DL
namespace DL
open PySem L2
theorem tup_once (l : Addr) (its : Array Value) (n : Nat) (dd : Option Addr) (sl : Array (Option Value)) (u : Tok) :
    Meets (Builtin.«tuple.__mul__» ⟨[.ref l, .int 1 u], []⟩) (fun _ R s => s.heap.get? l = some { cls := .type "tuple", dict := dd, data := .seq its n, slots := sl } ∧ R (.ok (.ret (Value.ref l))) s) := by
  refine .of_wp fun P' w' A' R s' hh => ?_
  obtain ⟨hp, gg, dd', tt, oo⟩ := s'
  obtain ⟨hl, hR⟩ := hh
  have f1 := AutoSeq1.idx_int
  have c1 : (its.isEmpty || (1 : Int) == 1) = true := by rw [show ((1 : Int) == 1) = true from rfl, Bool.or_true]
  wp_walk using AutoSeq1.wpAny_loadPart' hl
  exact ⟨_, rfl, hR⟩
section
variable {X : Cx}
theorem op_rep1 : OpR X (binaryOp .Mult) (fun x y H Q => ∃ l xs, x = .ref l ∧ y = .int 1 ∧ SqT X.K H l xs ∧ Q (.ref l) H) := by
  intro pins s σ H x y v u Q I rx ry h
  obtain ⟨l, xs, rfl, rfl, hT, q⟩ := h
  cases rx
  obtain ⟨t, rfl⟩ := ry
  obtain ⟨its, r, ⟨⟨cls, dd, data, sl⟩, ho, hc, n, hd⟩, hs⟩ := I.tuple hT
  simp only at hc hd
  subst hc hd
  refine wpAny_binaryOp_repeat_ref (T := "tuple") (U := "int") (by decide) ⟨_, ho, rfl⟩ (fun s' => typeIs_int s' 1 t) noFill_tuple_mul F.fills_int_mul F.slot_int_rmul repeat_tuple F.slot_int_index.lookup ?_
  refine PySem.call_meets F.slot_int_rmul (typeIs_int s 1 t) F.entry_int_rmul (F.args_int_rmul_2 _ _) (int_rmul_tuple 1 t l its.toArray n dd sl) ⟨ho, rfl, ⟨_, ho, rfl⟩, ?_⟩
  refine PySem.call_meets F.slot_tuple_mul ⟨_, ho, rfl⟩ F.entry_tuple_mul (F.args_tuple_mul_2 _ _) (tup_once l its.toArray n dd sl t) ⟨ho, ?_⟩
  exact ⟨.ref l, H, I, rfl, q⟩
end
end DL
namespace L2
open PySem
section
variable {X : Cx}
theorem PE.weak {e : Expr} {t t' : TE} (h : PE X e t) (w : ∀ σ H Q, t' σ H Q → t σ H Q) : PE X e t' := ⟨fun p s σ H Q I q => h.run p s σ H Q I (w _ _ _ q)⟩
theorem PT.weak {e : Expr} {t t' : TT} (h : PT X e t) (w : ∀ σ H Q, t' σ H Q → t σ H Q) : PT X e t' := ⟨fun p s σ H Q I q => h.run p s σ H Q I (w _ _ _ q)⟩
theorem PW.weak {e : Expr} {t t' : TT} (h : PW X e t) (w : ∀ σ H Q, t' σ H Q → t σ H Q) : PW X e t' := ⟨fun x p s σ H Q I q => h.run x p s σ H Q I (w _ _ _ q)⟩
theorem PA.weak {e : List Expr} {t t' : TA} (h : PA X e t) (w : ∀ σ H Q, t' σ H Q → t σ H Q) : PA X e t' := ⟨fun x p s σ H Q I q => h.run x p s σ H Q I (w _ _ _ q)⟩
theorem PS.weak {e : Stmt} {t t' : TS} (h : PS X e t) (w : ∀ D σ H, t' D σ H → t D σ H) : PS X e t' := ⟨fun p s σ H D I q => h.run p s σ H D I (w _ _ _ q)⟩
theorem PSs.weak {e : List Stmt} {t t' : TS} (h : PSs X e t) (w : ∀ D σ H, t' D σ H → t D σ H) : PSs X e t' := ⟨fun p s σ H D I q => h.run p s σ H D I (w _ _ _ q)⟩
end
end L2
namespace DL
open PySem L2
open PySem.W (Frag)
abbrev DE := S → (D → Nat → Prop) → Prop
abbrev DT := S → (Bool → Nat → Prop) → Prop
abbrev DA := S → (List D → Nat → Prop) → Prop
def LE (c : C) (t : DE) : TE := fun σ H Q => ∃ s R, Rep c s σ H ∧ t s R ∧ ∀ d k, R d k → ∀ v H', Rep c (s.at k) σ H' → AdvE c s.X H H' → Rl c.K (c.hid s.X H') v d → Q v H'
def LT (c : C) (t : DT) : TT := fun σ H Q => ∃ s R, Rep c s σ H ∧ t s R ∧ ∀ b k, R b k → ∀ H', Rep c (s.at k) σ H' → AdvE c s.X H H' → Q b H'
def LA (c : C) (t : DA) : TA := fun σ H Q => ∃ s R, Rep c s σ H ∧ t s R ∧ ∀ ds k, R ds k → ∀ vs H', Rep c (s.at k) σ H' → AdvE c s.X H H' → RlA c.K (c.hid s.X H') vs ds → Q vs H'
abbrev dVar (i : Nat) : DE := fun s Q => ∃ d, s.sl[i]? = some (.dat d) ∧ Q d s.k
abbrev dC (d : D) : DE := fun s Q => Q d s.k
section
variable {X : Cx} {c : C}
theorem pd_var (i : Nat) {x : PySem.Str} {pos : Pos} (hN : X.N[i]? = some x := by rfl) (hv : Vis X.env.scope x := by first | exact Or.inl rfl | exact Or.inr (Or.inl rfl) | exact Or.inr (Or.inr rfl)) (hd : (x == ("__debug__" : PySem.Str)) = false := by decide)
    (hcd : (x == ("__classdict__" : PySem.Str)) = false := by decide) : PE X (.Name x pos) (LE c (dVar i)) := by
  refine (pe_var hN hv hd hcd).weak fun σ H Q ⟨s, R, r, ⟨d, e, q⟩, f⟩ => ?_
  obtain ⟨v, e1, h⟩ := r.slot i _ e
  exact ⟨v, e1, f _ _ q v H r AdvE.refl h⟩
theorem LE.const {v : V} {d : D} (h : ∀ H, Rl c.K H v d) (σ : L2.St) (H : Hp) (Q : VK) (x : LE c (dC d) σ H Q) : Q v H := by
  obtain ⟨s, R, r, q, f⟩ := x
  exact f _ _ q v H r AdvE.refl (h _)
theorem pd_int {i j pos} : PE X (.Constant (.int i) j pos) (LE c (dC (.int i))) := pe_int.weak fun σ H Q h => LE.const (fun _ => .int i) σ H Q h
theorem pd_bl {b j pos} : PE X (.Constant (.bool b) j pos) (LE c (dC (.bl b))) := pe_bl.weak fun σ H Q h => LE.const (fun _ => .bl b) σ H Q h
theorem pd_non {j pos} : PE X (.Constant .none j pos) (LE c (dC .non)) := pe_non.weak fun σ H Q h => LE.const (fun _ => .non) σ H Q h
theorem pd_str {x j pos} : PE X (.Constant (.str x) j pos) (LE c (dC (.str x))) := pe_str.weak fun σ H Q h => LE.const (fun _ => .str x) σ H Q h
theorem pd_globI {x : PySem.Str} {pos : Pos} {i : Int} {t : Tok} (hm : X.mg x = some (.int i t)) (hg : Gl X x := by rfl) (hd : (x == ("__debug__" : PySem.Str)) = false := by decide) : PE X (.Name x pos) (LE c (dC (.int i))) :=
  (pe_glob (v := .int i) hg hm ⟨t, rfl⟩ hd).weak fun σ H Q h => LE.const (fun _ => .int i) σ H Q h
end
abbrev O2 := D → D → (D → Prop) → Prop
abbrev O1 := D → (D → Prop) → Prop
def Wi (c : C) (s : S) (σ : L2.St) (H : Hp) (R : D → Prop) (Q : VK) : Prop := ∀ d, R d → ∀ v H', Rep c s σ H' → AdvE c s.X H H' → Rl c.K (c.hid s.X H') v d → Q v H'
def Fit2 (c : C) (r : R2) (o : O2) : Prop := ∀ (s : S) (σ : L2.St) (H : Hp) (x y : V) (a b : D) (R : D → Prop) (Q : VK), Rep c s σ H → Rl c.K (c.hid s.X H) x a → Rl c.K (c.hid s.X H) y b → o a b R → Wi c s σ H R Q → r x y H Q
def Fit1 (c : C) (r : V → Hp → VK → Prop) (o : O1) : Prop := ∀ (s : S) (σ : L2.St) (H : Hp) (x : V) (a : D) (R : D → Prop) (Q : VK), Rep c s σ H → Rl c.K (c.hid s.X H) x a → o a R → Wi c s σ H R Q → r x H Q
abbrev dOp (o : O2) (a b : DE) : DE := fun s Q => a s fun x k => b (s.at k) fun y k' => o x y fun z => Q z k'
abbrev dUn (o : O1) (a : DE) : DE := fun s Q => a s fun x k => o x fun z => Q z k
theorem LE.op {c : C} {r : R2} {o : O2} {a b : DE} (f : Fit2 c r o) (σ : L2.St) (H : Hp) (Q : VK) (h : LE c (dOp o a b) σ H Q) : tOp r (LE c a) (LE c b) σ H Q := by
  obtain ⟨s, R, rp, h, fin⟩ := h
  refine ⟨s, _, rp, h, fun x k h1 v H1 r1 a1 e1 => ?_⟩
  refine ⟨s.at k, _, r1, h1, fun y k2 h2 u H2 r2 a2 e2 => ?_⟩
  exact f (s.at k2) σ H2 v u x y _ Q r2 (e1.mono a2.sub) e2 h2 fun z hz w H3 r3 a3 e3 => fin z k2 hz w H3 r3 ((a1.trans a2).trans a3) e3
theorem LE.un {c : C} {r : V → Hp → VK → Prop} {o : O1} {a : DE} (f : Fit1 c r o) (σ : L2.St) (H : Hp) (Q : VK) (h : LE c (dUn o a) σ H Q) : LE c a σ H (fun x H1 => r x H1 Q) := by
  obtain ⟨s, R, rp, h, fin⟩ := h
  refine ⟨s, _, rp, h, fun x k h1 v H1 r1 a1 e1 => ?_⟩
  exact f (s.at k) σ H1 v x _ Q r1 e1 h1 fun z hz w H3 r3 a3 e3 => fin z k hz w H3 r3 (a1.trans a3) e3
theorem Wi.same {c : C} {s : S} {σ : L2.St} {H : Hp} {R : D → Prop} {Q : VK} (w : Wi c s σ H R Q) (rp : Rep c s σ H) {d : D} {v : V} (h : R d) (e : Rl c.K (c.hid s.X H) v d) : Q v H := w d h v H rp AdvE.refl e
theorem Wi.lst {c : C} {s : S} {σ : L2.St} {H : Hp} {R : D → Prop} {Q : VK} (w : Wi c s σ H R Q) (rp : Rep c s σ H) {ds : List D} {vs : List V} (h : R (.lst ds)) (e : RlA c.K (c.hid s.X H) vs ds) : ∀ p, H p = none → Q (.ref p) (upd H p (.lst vs)) := fun p hp =>
  have n := rp.new (o := .lst vs) hp
  w _ h _ _ n.1 n.2 (.lst (rp.at_new hp) (e.mono n.2.sub))
theorem Wi.tup {c : C} {s : S} {σ : L2.St} {H : Hp} {R : D → Prop} {Q : VK} (w : Wi c s σ H R Q) (rp : Rep c s σ H) {ds : List D} {vs : List V} (h : R (.tup ds)) (e : RlA c.K (c.hid s.X H) vs ds) : ∀ p, H p = none → Q (.ref p) (upd H p (.tup vs)) := fun p hp =>
  have n := rp.new (o := .tup vs) hp
  w _ h _ _ n.1 n.2 (.tup (SqT.of (rp.at_new hp)) (e.mono n.2.sub))
theorem Rl.all {c : C} {s : S} {H : Hp} {v : V} {d : D} (h : Rl c.K (c.hid s.X H) v d) : Rl c.K H v d := h.mono (wo_sub _ _)
def lim : Nat := 1000000
theorem lim_le {n : Nat} (h : n ≤ lim) : n ≤ sizeLine := Nat.le_trans h (by decide)
theorem lim_lt {n : Nat} (h : n ≤ lim) : n < sizeLine := Nat.lt_of_le_of_lt h (by decide)
abbrev oAdd : O2 := fun x y Q => match x, y with
  | .int i, .int j => Q (.int (i + j))
  | .lst a, .lst b => a.length + b.length ≤ lim ∧ Q (.lst (a ++ b))
  | .tup a, .tup b => a.length + b.length ≤ lim ∧ Q (.tup (a ++ b))
  | _, _ => False
abbrev oSub : O2 := fun x y Q => match x, y with
  | .int i, .int j => Q (.int (i - j))
  | _, _ => False
abbrev oMul : O2 := fun x y Q => match x, y with
  | .int i, .int j => CMul i j ∧ Q (.int (i * j))
  | .lst a, .int k => 0 ≤ k ∧ k ≤ 1000 ∧ a.length * k.toNat ≤ lim ∧ Q (.lst (List.replicate k.toNat a).flatten)
  | .tup a, .int k => a ≠ [] ∧ 1 ≤ k ∧ k ≤ 1000 ∧ a.length ≤ 1000 ∧ Q (.tup (List.replicate k.toNat a).flatten)
  | _, _ => False
abbrev oDiv : O2 := fun x y Q => match x, y with
  | .int i, .int j => CDivW i j ∧ Q (.int (i / j))
  | _, _ => False
abbrev oMod : O2 := fun x y Q => match x, y with
  | .int i, .int j => 0 < j ∧ Q (.int (i % j))
  | _, _ => False
abbrev oPow : O2 := fun x y Q => match x, y with
  | .int i, .int j => CPow i j ∧ Q (.int (i ^ j.toNat))
  | _, _ => False
abbrev oLt : O2 := fun x y Q => match x, y with | .int i, .int j => Q (.bl (decide (i < j))) | _, _ => False
abbrev oLe : O2 := fun x y Q => match x, y with | .int i, .int j => Q (.bl (decide (i ≤ j))) | _, _ => False
abbrev oGt : O2 := fun x y Q => match x, y with | .int i, .int j => Q (.bl (decide (j < i))) | _, _ => False
abbrev oGe : O2 := fun x y Q => match x, y with | .int i, .int j => Q (.bl (decide (j ≤ i))) | _, _ => False
abbrev oIs : O2 := fun x y Q => match x, y with
  | .non, .non => Q (.bl true)
  | .bl a, .bl b => Q (.bl (decide (a = b)))
  | _, .non => Q (.bl false)
  | _, _ => False
abbrev oNot (o : O2) : O2 := fun x y Q => o x y fun z => match z with | .bl b => Q (.bl (!b)) | _ => False
theorem Rl.lstE {K : Frag} {H : Hp} {v : V} {ds : List D} (h : Rl K H v (.lst ds)) : ∃ a vs, v = .ref a ∧ H a = some (.lst vs) ∧ RlA K H vs ds := by
  cases h with
  | lst h r => exact ⟨_, _, rfl, h, r⟩
theorem Rl.tupE {K : Frag} {H : Hp} {v : V} {ds : List D} (h : Rl K H v (.tup ds)) : ∃ a vs, v = .ref a ∧ SqT K H a vs ∧ RlA K H vs ds := by
  cases h with
  | tup h r => exact ⟨_, _, rfl, h, r⟩
theorem Rl.intE {K : Frag} {H : Hp} {v : V} {i : Int} (h : Rl K H v (.int i)) : v = .int i := by
  cases h; rfl
theorem Rl.blE {K : Frag} {H : Hp} {v : V} {i : Bool} (h : Rl K H v (.bl i)) : v = .bl i := by
  cases h; rfl
theorem Rl.nonE {K : Frag} {H : Hp} {v : V} (h : Rl K H v .non) : v = .non := by
  cases h; rfl
theorem RlA.repl {K : Frag} {A : Hp} {vs : List V} {ds : List D} (h : RlA K A vs ds) : ∀ n : Nat, RlA K A (List.replicate n vs).flatten (List.replicate n ds).flatten
  | 0 => .nil
  | n + 1 => by
    rw [List.replicate_succ, List.flatten_cons, List.replicate_succ, List.flatten_cons]
    exact h.app (RlA.repl h n)
section
variable {X : Cx} {c : C} (hK : c.K = X.K)
theorem fit_I {cond : Int → Int → Prop} {g : Int → Int → V} {o : O2} {go : Int → Int → D} (hg : ∀ i j H, Rl c.K H (g i j) (go i j))
    (h : ∀ x y R, o x y R → ∃ i j, x = .int i ∧ y = .int j ∧ cond i j ∧ R (go i j)) : Fit2 c (rI cond g) o := fun s σ H x y a b R Q rp hx hy ho w => by
  obtain ⟨i, j, rfl, rfl, hc, hr⟩ := h _ _ _ ho
  cases hx.intE
  cases hy.intE
  exact ⟨i, j, rfl, rfl, hc, w.same rp hr (hg i j _)⟩
theorem fit_I0 {g : Int → Int → V} {o : O2} {go : Int → Int → D} (hg : ∀ i j H, Rl c.K H (g i j) (go i j))
    (h : ∀ x y R, o x y R → ∃ i j, x = .int i ∧ y = .int j ∧ R (go i j)) : Fit2 c (rI0 g) o := fun s σ H x y a b R Q rp hx hy ho w => by
  obtain ⟨i, j, rfl, rfl, hr⟩ := h _ _ _ ho
  cases hx.intE
  cases hy.intE
  exact ⟨i, j, rfl, rfl, w.same rp hr (hg i j _)⟩
theorem fit_sub : Fit2 c (rI0 fun i j => .int (i - j)) oSub := fit_I0 (go := fun i j => .int (i - j)) (fun _ _ _ => .int _) (by (intro x y R h; cases x <;> first | exact h.elim | (cases y <;> first | exact h.elim | exact ⟨_, _, rfl, rfl, h⟩)))
theorem fit_div : Fit2 c (rI CDivW fun i j => .int (i / j)) oDiv := fit_I (go := fun i j => .int (i / j)) (fun _ _ _ => .int _) (by (intro x y R h; cases x <;> first | exact h.elim | (cases y <;> first | exact h.elim | exact ⟨_, _, rfl, rfl, h⟩)))
theorem fit_mod : Fit2 c (rI (fun _ j => 0 < j) fun i j => .int (i % j)) oMod := fit_I (go := fun i j => .int (i % j)) (fun _ _ _ => .int _) (by (intro x y R h; cases x <;> first | exact h.elim | (cases y <;> first | exact h.elim | exact ⟨_, _, rfl, rfl, h⟩)))
theorem fit_pow : Fit2 c (rI CPow fun i j => .int (i ^ j.toNat)) oPow := fit_I (go := fun i j => .int (i ^ j.toNat)) (fun _ _ _ => .int _) (by (intro x y R h; cases x <;> first | exact h.elim | (cases y <;> first | exact h.elim | exact ⟨_, _, rfl, rfl, h⟩)))
theorem fit_lt : Fit2 c (rI0 fun i j => .bl (decide (i < j))) oLt := fit_I0 (go := fun i j => .bl (decide (i < j))) (fun _ _ _ => .bl _) (by (intro x y R h; cases x <;> first | exact h.elim | (cases y <;> first | exact h.elim | exact ⟨_, _, rfl, rfl, h⟩)))
theorem fit_le : Fit2 c (rI0 fun i j => .bl (decide (i ≤ j))) oLe := fit_I0 (go := fun i j => .bl (decide (i ≤ j))) (fun _ _ _ => .bl _) (by (intro x y R h; cases x <;> first | exact h.elim | (cases y <;> first | exact h.elim | exact ⟨_, _, rfl, rfl, h⟩)))
theorem fit_gt : Fit2 c (rI0 fun i j => .bl (decide (j < i))) oGt := fit_I0 (go := fun i j => .bl (decide (j < i))) (fun _ _ _ => .bl _) (by (intro x y R h; cases x <;> first | exact h.elim | (cases y <;> first | exact h.elim | exact ⟨_, _, rfl, rfl, h⟩)))
theorem fit_ge : Fit2 c (rI0 fun i j => .bl (decide (j ≤ i))) oGe := fit_I0 (go := fun i j => .bl (decide (j ≤ i))) (fun _ _ _ => .bl _) (by (intro x y R h; cases x <;> first | exact h.elim | (cases y <;> first | exact h.elim | exact ⟨_, _, rfl, rfl, h⟩)))
include hK in
theorem fit_add : Fit2 c (fun x y H Q => rI0 (fun i j => .int (i + j)) x y H Q ∨ (fun x y H Q => rCat x y H Q ∨ rCatA X.K x y H Q) x y H Q) oAdd := fun s σ H x y a b R Q rp hx hy ho w => by
  cases a <;> first
    | exact ho.elim
    | (cases b <;> first
        | exact ho.elim
        | (cases hx.intE; cases hy.intE; exact .inl ⟨_, _, rfl, rfl, w.same rp ho (.int _)⟩)
        | (obtain ⟨p, vs, rfl, h1, r1⟩ := Rl.lstE hx
           obtain ⟨q, us, rfl, h2, r2⟩ := Rl.lstE hy
           refine .inr (.inl ⟨p, q, vs, us, rfl, rfl, wo_sub _ _ _ _ h1, wo_sub _ _ _ _ h2, ?_, w.lst rp ho.2 (r1.app r2)⟩)
           rw [r1.len, r2.len]
           exact lim_le ho.1)
        | (obtain ⟨p, vs, rfl, h1, r1⟩ := Rl.tupE hx
           obtain ⟨q, us, rfl, h2, r2⟩ := Rl.tupE hy
           refine .inr (.inr ⟨p, q, vs, us, rfl, rfl, hK ▸ (wo_sub _ _).st h1, hK ▸ (wo_sub _ _).st h2, ?_, fun e => ?_, fun _ e => ?_, fun _ _ => w.tup rp ho.2 (r1.app r2)⟩)
           · rw [r1.len, r2.len]
             exact lim_le ho.1
           · subst e
             cases r1
             exact w.same rp ho.2 hy
           · subst e
             cases r2
             refine w.same rp ho.2 ?_
             rw [List.append_nil]
             exact hx))
include hK in
theorem fit_mul : Fit2 c (fun x y H Q => rI CMul (fun i j => .int (i * j)) x y H Q ∨ (fun x y H Q => rRep x y H Q ∨ (fun x y H Q => rRepT X.K x y H Q ∨ (fun x y H Q => ∃ l xs, x = .ref l ∧ y = .int 1 ∧ SqT X.K H l xs ∧ Q (.ref l) H) x y H Q) x y H Q) x y H Q) oMul := fun s σ H x y a b R Q rp hx hy ho w => by
  cases a <;> first
    | exact ho.elim
    | (cases b <;> first
        | exact ho.elim
        | (cases hx.intE; cases hy.intE; exact .inl ⟨_, _, rfl, rfl, ho.1, w.same rp ho.2 (.int _)⟩)
        | (obtain ⟨p, vs, rfl, h1, r1⟩ := Rl.lstE hx
           cases hy.intE
           obtain ⟨h0, h9, hl, hR⟩ := ho
           refine .inr (.inl ⟨p, _, vs, rfl, rfl, wo_sub _ _ _ _ h1, by omega, by omega, ?_, w.lst rp hR (r1.repl _)⟩)
           rw [r1.len]
           exact lim_le hl)
        | (obtain ⟨p, vs, rfl, h1, r1⟩ := Rl.tupE hx
           cases hy.intE
           obtain ⟨hne, h0, h9, hl, hR⟩ := ho
           rename_i k
           by_cases k1 : k = 1
           · subst k1
             refine .inr (.inr (.inr ⟨p, vs, rfl, rfl, hK ▸ (wo_sub _ _).st h1, w.same rp hR ?_⟩))
             have e : (List.replicate (1 : Int).toNat ‹List D›).flatten = ‹List D› := by
               show (List.replicate 1 _).flatten = _
               simp
             rw [e]
             exact hx
           · refine .inr (.inr (.inl ⟨p, _, vs, rfl, rfl, hK ▸ (wo_sub _ _).st h1, fun e => ?_, by omega, h9, by rw [r1.len]; exact hl, w.tup rp hR (r1.repl _)⟩))
             subst e
             cases r1
             exact hne rfl))
theorem fit_isnot : Fit2 c (fun x y H Q => (fun x y H Q => y = .non ∧ Q (.bl (!decide (x = .non))) H) x y H Q ∨ rNotB x y H Q) (oNot oIs) := fun s σ H x y a b R Q rp hx hy ho w => by
  cases b with
  | non =>
    cases hy.nonE
    refine .inl ⟨rfl, ?_⟩
    cases hx <;> exact w.same rp ho (.bl _)
  | bl j =>
    cases a <;> first | exact ho.elim | skip
    cases hx.blE; cases hy.blE
    exact .inr ⟨_, _, rfl, rfl, w.same rp ho (.bl _)⟩
  | _ => cases a <;> exact ho.elim
end
end DL
namespace DL
open PySem L2
open PySem.W (Frag)
mutual
def D.py : D → PyData
  | .non => .none
  | .bl b => .bool b
  | .int i => .int i
  | .str x => .str x
  | .lst xs => .list (pyA xs)
  | .tup xs => .tuple (pyA xs)
  | .dic => .dict []
  | .ins _ _ _ => .none
  | .exc _ _ _ => .none
def pyA : List D → List PyData
  | [] => []
  | d :: r => D.py d :: pyA r
end
mutual
def D.plain : D → Bool
  | .lst xs => plainA xs
  | .tup xs => plainA xs
  | .dic => false
  | .ins _ _ _ => false
  | .exc _ _ _ => false
  | .non => true
  | .bl _ => true
  | .int _ => true
  | .str _ => true
def plainA : List D → Bool
  | [] => true
  | d :: r => D.plain d && plainA r
end
mutual
theorem Rl.dp {K : Frag} {H : Hp} : ∀ (d : D) {v : V}, Rl K H v d → d.plain = true → Dp K H v d.py
  | .non, _, h, _ => by cases h; exact .non
  | .bl b, _, h, _ => by cases h; exact .bl b
  | .int i, _, h, _ => by cases h; exact .int i
  | .str x, _, h, _ => by cases h; exact .str x
  | .lst xs, _, h, p => by
    cases h with
    | lst h r => exact .lst (SqL.of h) (RlA.dp xs r p)
  | .tup xs, _, h, p => by
    cases h with
    | tup h r => exact .tup h (RlA.dp xs r p)
  | .dic, _, _, p => by cases p
  | .ins _ _ _, _, _, p => by cases p
  | .exc _ _ _, _, _, p => by cases p
theorem RlA.dp {K : Frag} {H : Hp} : ∀ (ds : List D) {vs : List V}, RlA K H vs ds → plainA ds = true → DpAll K H vs (pyA ds)
  | [], _, h, _ => by cases h; exact .nil
  | d :: r, _, h, p => by
    have p' := Bool.and_eq_true_iff.mp p
    cases h with
    | cons h q => exact .cons (Rl.dp d h p'.1) (RlA.dp r q p'.2)
end
def D.okE (d : D) : Bool := d.plain && SeqAt.shaped d.py
abbrev oEq : O2 := fun x y Q => match x, y with
  | .str a, .str b => Q (.bl (decide (a = b)))
  | x, y => x.okE = true ∧ y.okE = true ∧ Q (.bl (PyData.eqv x.py y.py))
abbrev oNe : O2 := fun x y Q => match x, y with
  | .str a, .str b => Q (.bl (!decide (a = b)))
  | x, y => x.okE = true ∧ y.okE = true ∧ Q (.bl (!PyData.eqv x.py y.py))
theorem Rl.strE {K : Frag} {H : Hp} {v : V} {x : PySem.Str} (h : Rl K H v (.str x)) : v = .str x := by
  cases h; rfl
theorem str_dec (a b : PySem.Str) : decide (V.str a = V.str b) = decide (a = b) := by
  by_cases e : a = b
  · subst e; simp
  · have : ¬ V.str a = V.str b := fun q => e (V.str.inj q)
    rw [decide_eq_false this, decide_eq_false e]
theorem plain_ints : ∀ ns : List Int, plainA (ns.map D.int) = true
  | [] => rfl
  | _ :: r => plain_ints r
theorem py_ints : ∀ ns : List Int, pyA (ns.map D.int) = ns.map PyData.int
  | [] => rfl
  | n :: r => congrArg (PyData.int n :: ·) (py_ints r)
theorem lay_ints : ∀ ns : List Int, PyData.canLayAll0 (ns.map PyData.int) = true
  | [] => rfl
  | n :: r => by
    show (PyData.canLay0 (.int n) && PyData.canLayAll0 (r.map PyData.int)) = true
    rw [lay_ints r]
    rfl
theorem depth_ints : ∀ ns : List Int, PyData.depthAll (ns.map PyData.int) = 0
  | [] => rfl
  | n :: r => by
    show max (PyData.depth (.int n)) (PyData.depthAll (r.map PyData.int)) = 0
    rw [depth_ints r]
    rfl
theorem eqv_ints : ∀ ns ms : List Int, PyData.eqvAll (ns.map PyData.int) (ms.map PyData.int) = decide (ns = ms)
  | [], [] => rfl
  | [], _ :: _ => rfl
  | _ :: _, [] => rfl
  | n :: r, m :: q => by
    show (PyData.eqv (.int n) (.int m) && PyData.eqvAll (r.map PyData.int) (q.map PyData.int)) = _
    rw [eqv_ints r q]
    show ((n == m) && decide (r = q)) = decide (n :: r = m :: q)
    by_cases h1 : n = m
    · subst h1
      by_cases h2 : r = q
      · simp [h2]
      · simp [h2]
    · have e : (n == m) = false := by simpa using h1
      rw [e]
      simp [h1]
theorem okE_tupI (ns : List Int) : (D.tup (ns.map D.int)).okE = true := by
  show (plainA (ns.map D.int) && (PyData.canLayAll0 (pyA (ns.map D.int)) && decide (PyData.depthAll (pyA (ns.map D.int)) + 1 ≤ 64))) = true
  rw [plain_ints, py_ints, lay_ints, depth_ints]
  rfl
theorem okE_lstI (ns : List Int) : (D.lst (ns.map D.int)).okE = true := okE_tupI ns
theorem eqv_tupI (ns ms : List Int) : PyData.eqv (D.tup (ns.map D.int)).py (D.tup (ms.map D.int)).py = decide (ns = ms) := by
  show PyData.eqvAll (pyA _) (pyA _) = _
  rw [py_ints, py_ints, eqv_ints]
theorem eqv_lstI (ns ms : List Int) : PyData.eqv (D.lst (ns.map D.int)).py (D.lst (ms.map D.int)).py = decide (ns = ms) := eqv_tupI ns ms
def D.items : D → Option (List D)
  | .lst xs => some xs
  | .tup xs => some xs
  | _ => none
theorem Rl.items {K : Frag} {H : Hp} {v : V} {d : D} {ds : List D} (h : Rl K H v d) (e : d.items = some ds) : ∃ a vs, v = .ref a ∧ (SqL K H a vs ∨ SqT K H a vs) ∧ RlA K H vs ds := by
  cases d <;> first | cases e | skip
  · obtain ⟨a, vs, e, h, r⟩ := h.lstE
    exact ⟨a, vs, e, .inl (SqL.of h), r⟩
  · obtain ⟨a, vs, e, h, r⟩ := h.tupE
    exact ⟨a, vs, e, .inr h, r⟩
theorem sq_all {K : Frag} {A B : Hp} (x : Sub A B) {a : Addr} {vs : List V} (h : SqL K A a vs ∨ SqT K A a vs) : SqL K B a vs ∨ SqT K B a vs := h.elim (fun h => .inl (x.sl h)) fun h => .inr (x.st h)
section
variable {X : Cx} {c : C} (hK : c.K = X.K)
include hK
theorem fit_eq : Fit2 c (fun x y H Q => rEq x y H Q ∨ rEqD X.K x y H Q) oEq := fun s σ H x y a b R Q rp hx hy ho w => by
  unfold oEq at ho
  split at ho
  · cases hx.strE
    cases hy.strE
    exact .inl ⟨rfl, by rw [str_dec]; exact w.same rp ho (.bl _)⟩
  · obtain ⟨h1, h2, ho⟩ := ho
    have p1 := Bool.and_eq_true_iff.mp h1
    have p2 := Bool.and_eq_true_iff.mp h2
    exact .inr ⟨_, _, hK ▸ Rl.dp _ hx.all p1.1, hK ▸ Rl.dp _ hy.all p2.1, p1.2, p2.2, w.same rp ho (.bl _)⟩
theorem fit_ne : Fit2 c (fun x y H Q => rNe x y H Q ∨ rNeD X.K x y H Q) oNe := fun s σ H x y a b R Q rp hx hy ho w => by
  unfold oNe at ho
  split at ho
  · cases hx.strE
    cases hy.strE
    exact .inl ⟨rfl, by rw [str_dec]; exact w.same rp ho (.bl _)⟩
  · obtain ⟨h1, h2, ho⟩ := ho
    have p1 := Bool.and_eq_true_iff.mp h1
    have p2 := Bool.and_eq_true_iff.mp h2
    exact .inr ⟨_, _, hK ▸ Rl.dp _ hx.all p1.1, hK ▸ Rl.dp _ hy.all p2.1, p1.2, p2.2, w.same rp ho (.bl _)⟩
abbrev oIx : O2 := fun x y Q => match y with
  | .int i => ∃ ds d, x.items = some ds ∧ atI ds i = some d ∧ Q d
  | _ => False
omit hK in
theorem at_rl {K : Frag} {A : Hp} {vs : List V} {ds : List D} {i : Int} {d : D} (r : RlA K A vs ds) (h : atI ds i = some d) : ∃ v, atI vs i = some v ∧ Rl K A v d := by
  unfold atI at h ⊢
  rw [r.len]
  cases e : ixN ds.length i with
  | none => rw [e] at h; cases h
  | some j =>
    rw [e] at h
    exact r.getD (i := j) h
theorem fit_ix : Fit2 c (rIx X.K) oIx := fun s σ H x y a b R Q rp hx hy ho w => by
  cases b <;> first | exact ho.elim | skip
  rename_i i
  cases hy.intE
  obtain ⟨ds, d, h1, h2, hR⟩ := ho
  obtain ⟨p, vs, rfl, hs, r⟩ := hx.items h1
  obtain ⟨v, h3, h4⟩ := at_rl r h2
  rcases sq_all (wo_sub _ _) hs with hs | hs
  · exact .inl ⟨p, vs, i, v, rfl, rfl, hK ▸ hs, h3, w.same rp hR h4⟩
  · exact .inr (.inl ⟨p, vs, i, v, rfl, rfl, hK ▸ hs, h3, w.same rp hR h4⟩)
def cutD (xs : List D) (lo hi : Option Int) : List D := (xs.drop (HT.sIx xs.length 0 lo)).take (HT.sIx xs.length xs.length hi - HT.sIx xs.length 0 lo)
omit hK in
theorem cut_rl {K : Frag} {A : Hp} {vs : List V} {ds : List D} (r : RlA K A vs ds) (lo hi : Option Int) : RlA K A (cutV vs lo hi) (cutD ds lo hi) := by
  unfold cutV cutD
  rw [r.len]
  exact (r.drop _).take _
abbrev oSl (x : D) (lo hi : Option Int) (Q : D → Prop) : Prop := match x with
  | .lst xs => Q (.lst (cutD xs lo hi))
  | .tup xs => Q (.tup (cutD xs lo hi))
  | _ => False
theorem fit_sl (s : S) (σ : L2.St) (H : Hp) (x : V) (a : D) (lo hi : Option Int) (R : D → Prop) (Q : VK) (rp : Rep c s σ H) (hx : Rl c.K (c.hid s.X H) x a) (ho : oSl a lo hi R) (w : Wi c s σ H R Q) :
    rSlL X.K x lo hi H Q ∨ rSlA X.K x lo hi H Q := by
  cases a <;> first | exact ho.elim | skip
  · obtain ⟨p, vs, rfl, h1, r⟩ := hx.lstE
    exact .inl ⟨p, vs, rfl, hK ▸ SqL.of (wo_sub _ _ _ _ h1), w.lst rp ho (cut_rl r lo hi)⟩
  · obtain ⟨p, vs, rfl, h1, r⟩ := hx.tupE
    refine .inr ⟨p, vs, rfl, hK ▸ (wo_sub _ _).st h1, fun e => ?_, fun _ => w.tup rp ho (cut_rl r lo hi)⟩
    refine w.same rp ho ?_
    have e1 := e.1
    have e2 := e.2
    rw [r.len] at e1 e2
    unfold cutD
    rw [e1, e2, Nat.sub_zero, List.drop_zero, List.take_length]
    exact hx
end
def D.tru : D → Option Bool
  | .non => some false
  | .bl b => some b
  | .int i => some (i != 0)
  | .lst xs => some (!xs.isEmpty)
  | .tup xs => some (!xs.isEmpty)
  | .dic => some false
  | _ => none
abbrev dTru (t : DE) : DT := fun s Q => t s fun d k => ∃ b, d.tru = some b ∧ Q b k
abbrev dTB (t : DE) : DT := fun s Q => t s fun d k => ∃ b, d = .bl b ∧ Q b k
abbrev dAnd (t u : DT) : DT := fun s Q => t s fun b k => if b = true then u (s.at k) Q else Q false k
abbrev dOr (t u : DT) : DT := fun s Q => t s fun b k => if b = true then Q true k else u (s.at k) Q
abbrev dNot (t : DT) : DT := fun s Q => t s fun b k => Q (!b) k
abbrev dIf (t : DT) (a b : DE) : DE := fun s Q => t s fun x k => if x = true then a (s.at k) Q else b (s.at k) Q
abbrev dAndV (t u : DE) : DE := fun s Q => t s fun d k => ∃ b, d = .bl b ∧ if b = true then u (s.at k) Q else Q (.bl false) k
abbrev dNotV (t : DE) : DE := fun s Q => t s fun d k => ∃ b, d = .bl b ∧ Q (.bl (!b)) k
theorem isEmpty_rl {K : Frag} {A : Hp} {vs : List V} {ds : List D} (r : RlA K A vs ds) : vs.isEmpty = ds.isEmpty := by
  cases r <;> rfl
section
variable {X : Cx} {c : C}
theorem pt_tru (hK : c.K = X.K) {a : Expr} {t : DE} (h : PE X a (LE c t)) (he : ∀ whole, isTrue a X.env whole = (do let v ← whole; standAt a.pos; holding [v] (truthy v)) := by intro _; rfl) : PT X a (LT c (dTru t)) :=
  (pt_truth h he).weak fun σ H Q ⟨s, R, rp, q, f⟩ => by
    refine ⟨s, _, rp, q, fun d k ⟨b, hb, hR⟩ v H' r1 a1 e1 => ⟨b, ?_, f b k hR H' r1 a1⟩⟩
    cases d <;> first | cases hb | skip
    · cases e1.nonE; rfl
    · cases e1.blE; rfl
    · cases e1.intE; rfl
    · obtain ⟨p, vs, rfl, h1, r⟩ := e1.lstE
      exact .inl ⟨vs, hK ▸ SqL.of (wo_sub _ _ _ _ h1), by rw [isEmpty_rl r]⟩
    · obtain ⟨p, vs, rfl, h1, r⟩ := e1.tupE
      exact .inr (.inl ⟨vs, hK ▸ (wo_sub _ _).st h1, by rw [isEmpty_rl r]⟩)
    · cases e1 with
      | dic h => exact .inr (.inr ⟨_, wo_sub _ _ _ _ h, rfl⟩)
theorem LT.ofB {t : DE} {σ : L2.St} {H : Hp} {Q : Bool → Hp → Prop} (h : LT c (dTB t) σ H Q) : LE c t σ H fun x H1 => ∃ b, x = .bl b ∧ Q b H1 := by
  obtain ⟨s, R, rp, q, f⟩ := h
  refine ⟨s, _, rp, q, fun d k ⟨b, hb, hR⟩ v H' r1 a1 e1 => ?_⟩
  subst hb
  cases e1.blE
  exact ⟨b, rfl, f b k hR H' r1 a1⟩
theorem pd_cmp {a b : Expr} {op : CmpOp} {pos : Pos} {ta tb : DE} {r : R2} {o : O2} (ho : OpR X (compareOp op) r) (f : Fit2 c r o) (ha : PE X a (LE c ta)) (hb : PE X b (LE c tb)) (hm : behindInMarks op b = false := by first | exact nomark _ | rfl) :
    PE X (.Compare a [op] [b] pos) (LE c (dOp o ta tb)) := (pe_cmpR ho ha hb hm).weak fun σ H Q h => LE.op f σ H Q h
theorem ptd_cmp {a b : Expr} {op : CmpOp} {pos : Pos} {ta tb : DE} {r : R2} {o : O2} (ho : OpR X (compareOp op) r) (f : Fit2 c r o) (ha : PE X a (LE c ta)) (hb : PE X b (LE c tb)) (hm : behindInMarks op b = false := by first | exact nomark _ | rfl) :
    PT X (.Compare a [op] [b] pos) (LT c (dTB (dOp o ta tb))) := (pt_cmpR ho ha hb hm).weak fun σ H Q h => LE.op f σ H _ h.ofB
abbrev dCh (o o' : O2) (a b e : DE) : DE := fun s Q => a s fun x k => b (s.at k) fun y k1 => o x y fun z => ∃ q, z = .bl q ∧ if q = true then e (s.at k1) fun w k2 => o' y w fun u => Q u k2 else Q (.bl false) k1
theorem LE.chain {r r' : R2} {o o' : O2} {a b e : DE} (f : Fit2 c r o) (f' : Fit2 c r' o') (σ : L2.St) (H : Hp) (Q : VK) (h : LE c (dCh o o' a b e) σ H Q) : tChain r r' (LE c a) (LE c b) (LE c e) σ H Q := by
  obtain ⟨s, R, rp, h, fin⟩ := h
  refine ⟨s, _, rp, h, fun x k h1 v H1 r1 a1 e1 => ?_⟩
  refine ⟨s.at k, _, r1, h1, fun y k2 h2 u H2 r2 a2 e2 => ?_⟩
  refine f (s.at k2) σ H2 v u x y _ _ r2 (e1.mono a2.sub) e2 h2 fun z ⟨q, hq, hz⟩ w H3 r3 a3 e3 => ?_
  subst hq
  cases e3.blE
  refine ⟨q, rfl, ?_⟩
  cases q with
  | false => exact fin _ k2 hz _ H3 r3 ((a1.trans a2).trans a3) (.bl false)
  | true =>
    refine ⟨s.at k2, _, r3, hz, fun d k4 h4 w4 H4 r4 a4 e4 => ?_⟩
    exact f' (s.at k4) σ H4 u w4 y d _ Q r4 ((e2.mono a3.sub).mono a4.sub) e4 h4 fun z hz w H5 r5 a5 e5 => fin z k4 hz w H5 r5 ((((a1.trans a2).trans a3).trans a4).trans a5) e5
theorem pd_chain {a b e : Expr} {op op' : CmpOp} {pos : Pos} {ta tb te : DE} {r r' : R2} {o o' : O2} (ho : OpR X (compareOp op) r) (f : Fit2 c r o) (ho' : OpR X (compareOp op') r') (f' : Fit2 c r' o') (ha : PE X a (LE c ta)) (hb : PE X b (LE c tb)) (he : PE X e (LE c te)) (hm : lastMarks [op, op'] [b, e] = false := by rfl) :
    PE X (.Compare a [op, op'] [b, e] pos) (LE c (dCh o o' ta tb te)) := (pe_chain ho ho' ha hb he hm).weak fun σ H Q h => LE.chain f f' σ H Q h
theorem ptd_chain {a b e : Expr} {op op' : CmpOp} {pos : Pos} {ta tb te : DE} {r r' : R2} {o o' : O2} (ho : OpR X (compareOp op) r) (f : Fit2 c r o) (ho' : OpR X (compareOp op') r') (f' : Fit2 c r' o') (ha : PE X a (LE c ta)) (hb : PE X b (LE c tb)) (he : PE X e (LE c te)) (hm : lastMarks [op, op'] [b, e] = false := by rfl) :
    PT X (.Compare a [op, op'] [b, e] pos) (LT c (dTB (dCh o o' ta tb te))) := (pt_chain ho ho' ha hb he hm).weak fun σ H Q h => LE.chain f f' σ H _ h.ofB
theorem pwd_and1 {a : Expr} {pos : Pos} {t : DT} (ha : PT X a (LT c t)) : PW X (.BoolOp .And [a] pos) (LT c t) := pw_and1 ha
theorem pwd_or1 {a : Expr} {pos : Pos} {t : DT} (ha : PT X a (LT c t)) : PW X (.BoolOp .Or [a] pos) (LT c t) := pw_or1 ha
theorem pwd_and {a b : Expr} {rest : List Expr} {pos : Pos} {t u : DT} (ha : PT X a (LT c t)) (hb : PW X (.BoolOp .And (b :: rest) pos) (LT c u)) : PW X (.BoolOp .And (a :: b :: rest) pos) (LT c (dAnd t u)) :=
  (pw_and ha hb).weak fun σ H Q ⟨s, R, rp, q, f⟩ => by
    refine ⟨s, _, rp, q, fun b k hb H1 r1 a1 => ?_⟩
    cases b with
    | true => exact ⟨s.at k, R, r1, hb, fun b' k' hR H2 r2 a2 => f b' k' hR H2 r2 (a1.trans a2)⟩
    | false => exact f false k hb H1 r1 a1
theorem pwd_or {a b : Expr} {rest : List Expr} {pos : Pos} {t u : DT} (ha : PT X a (LT c t)) (hb : PW X (.BoolOp .Or (b :: rest) pos) (LT c u)) : PW X (.BoolOp .Or (a :: b :: rest) pos) (LT c (dOr t u)) :=
  (pw_or ha hb).weak fun σ H Q ⟨s, R, rp, q, f⟩ => by
    refine ⟨s, _, rp, q, fun b k hb H1 r1 a1 => ?_⟩
    cases b with
    | false => exact ⟨s.at k, R, r1, hb, fun b' k' hR H2 r2 a2 => f b' k' hR H2 r2 (a1.trans a2)⟩
    | true => exact f true k hb H1 r1 a1
theorem ptd_not {a : Expr} {pos : Pos} {t : DT} (ha : PT X a (LT c t)) : PT X (.UnaryOp .Not a pos) (LT c (dNot t)) :=
  (pt_not ha).weak fun σ H Q ⟨s, R, rp, q, f⟩ => ⟨s, _, rp, q, fun b k hb H1 r1 a1 => f _ k hb H1 r1 a1⟩
theorem pd_if {t a b : Expr} {pos : Pos} {tt : DT} {ta tb : DE} (ht : PT X t (LT c tt)) (ha : PE X a (LE c ta)) (hb : PE X b (LE c tb)) : PE X (.IfExp t a b pos) (LE c (dIf tt ta tb)) :=
  (pe_ifExp ht ha hb).weak fun σ H Q ⟨s, R, rp, q, f⟩ => by
    refine ⟨s, _, rp, q, fun b k hb H1 r1 a1 => ?_⟩
    cases b with
    | true => exact ⟨s.at k, R, r1, hb, fun d k' hR v H2 r2 a2 e => f d k' hR v H2 r2 (a1.trans a2) e⟩
    | false => exact ⟨s.at k, R, r1, hb, fun d k' hR v H2 r2 a2 e => f d k' hR v H2 r2 (a1.trans a2) e⟩
theorem pd_one {a : Expr} {op} {pos : Pos} {t : DE} (h : PE X a (LE c t)) : PE X (.BoolOp op [a] pos) (LE c t) := pe_one h
theorem pd_andV {a b : Expr} {rest : List Expr} {pos : Pos} {t u : DE} (ha : PE X a (LE c t)) (hb : PE X (.BoolOp .And (b :: rest) pos) (LE c u)) : PE X (.BoolOp .And (a :: b :: rest) pos) (LE c (dAndV t u)) :=
  (pe_and ha hb).weak fun σ H Q ⟨s, R, rp, q, f⟩ => by
    refine ⟨s, _, rp, q, fun d k ⟨b, hd, hb⟩ v H1 r1 a1 e1 => ?_⟩
    subst hd
    cases e1.blE
    refine ⟨b, rfl, ?_⟩
    cases b with
    | true => exact ⟨s.at k, R, r1, hb, fun d k' hR v H2 r2 a2 e => f d k' hR v H2 r2 (a1.trans a2) e⟩
    | false => exact f _ k hb _ H1 r1 a1 (.bl _)
theorem pd_notV {a : Expr} {pos : Pos} {t : DE} (ha : PE X a (LE c t)) : PE X (.UnaryOp .Not a pos) (LE c (dNotV t)) :=
  (pe_not ha).weak fun σ H Q ⟨s, R, rp, q, f⟩ => by
    refine ⟨s, _, rp, q, fun d k ⟨b, hd, hb⟩ v H1 r1 a1 e1 => ?_⟩
    subst hd
    cases e1.blE
    exact ⟨b, rfl, f _ k hb _ H1 r1 a1 (.bl _)⟩
end
abbrev dNil : DA := fun s Q => Q [] s.k
abbrev dCons (t : DE) (u : DA) : DA := fun s Q => t s fun d k => u (s.at k) fun ds k' => Q (d :: ds) k'
abbrev dTup (t : DA) : DE := fun s Q => t s fun ds k => ds.length ≤ lim ∧ Q (.tup ds) k
abbrev DO' := S → (Option Int → Nat → Prop) → Prop
def LO (c : C) (t : DO') : TO := fun σ H Q => ∃ s R, Rep c s σ H ∧ t s R ∧ ∀ b k, R b k → ∀ H', Rep c (s.at k) σ H' → AdvE c s.X H H' → Q b H'
abbrev dON : DO' := fun s Q => Q none s.k
abbrev dOS (t : DE) : DO' := fun s Q => t s fun d k => ∃ i, d = .int i ∧ Q (some i) k
abbrev dSl (t : DE) (l h : DO') : DE := fun s Q => t s fun x k => l (s.at k) fun lo k1 => h (s.at k1) fun hi k2 => oSl x lo hi fun z => Q z k2
section
variable {X : Cx} {c : C}
theorem pad_nil : PA X [] (LA c dNil) := pa_nil.weak fun σ H Q ⟨s, R, rp, q, f⟩ => f _ _ q [] H rp AdvE.refl .nil
theorem pad_cons {e : Expr} {es : List Expr} {t : DE} {u : DA} (ha : PE X e (LE c t)) (hr : PA X es (LA c u)) (hs : starEach (e :: es) X.env = (false, eval e X.env) :: starEach es X.env := by rfl) : PA X (e :: es) (LA c (dCons t u)) :=
  (pa_cons ha hr hs).weak fun σ H Q ⟨s, R, rp, q, f⟩ =>
    ⟨s, _, rp, q, fun d k hd v H1 r1 a1 e1 => ⟨s.at k, _, r1, hd, fun ds k2 h2 vs H2 r2 a2 e2 => f _ k2 h2 _ H2 r2 (a1.trans a2) (.cons (e1.mono a2.sub) e2)⟩⟩
theorem pd_tup {es : List Expr} {x1} {pos : Pos} {t : DA} (h : PA X es (LA c t)) : PE X (.Tuple es x1 pos) (LE c (dTup t)) :=
  (pe_tup h).weak fun σ H Q ⟨s, R, rp, q, f⟩ => by
    refine ⟨s, _, rp, q, fun ds k ⟨hl, hR⟩ vs H1 r1 a1 e1 => ⟨by rw [e1.len]; exact lim_le hl, ?_⟩⟩
    exact Wi.tup (c := c) (s := s.at k) (σ := σ) (R := fun d => d = .tup ds) (fun d hd v H' r' a' e' => by subst hd; exact f _ k hR v H' r' (a1.trans a') e') r1 rfl e1
theorem pd_bin {a b : Expr} {op : Operator} {pos : Pos} {ta tb : DE} {r : R2} {o : O2} (ho : OpR X (binaryOp op) r) (f : Fit2 c r o) (ha : PE X a (LE c ta)) (hb : PE X b (LE c tb)) : PE X (.BinOp a op b pos) (LE c (dOp o ta tb)) :=
  (pe_op ho ha hb).weak fun σ H Q h => LE.op f σ H Q h
theorem pd_add (hK : c.K = X.K) {a b : Expr} {pos : Pos} {ta tb : DE} (ha : PE X a (LE c ta)) (hb : PE X b (LE c tb)) : PE X (.BinOp a .Add b pos) (LE c (dOp oAdd ta tb)) := pd_bin (OpR.or op_add (OpR.or op_cat op_catA)) (fit_add hK) ha hb
theorem pd_mul (hK : c.K = X.K) {a b : Expr} {pos : Pos} {ta tb : DE} (ha : PE X a (LE c ta)) (hb : PE X b (LE c tb)) : PE X (.BinOp a .Mult b pos) (LE c (dOp oMul ta tb)) := pd_bin (OpR.or op_mul (OpR.or op_rep (OpR.or op_repT op_rep1))) (fit_mul hK) ha hb
theorem pd_sub {a b : Expr} {pos : Pos} {ta tb : DE} (ha : PE X a (LE c ta)) (hb : PE X b (LE c tb)) : PE X (.BinOp a .Sub b pos) (LE c (dOp oSub ta tb)) := pd_bin op_sub fit_sub ha hb
theorem pd_div {a b : Expr} {pos : Pos} {ta tb : DE} (ha : PE X a (LE c ta)) (hb : PE X b (LE c tb)) : PE X (.BinOp a .FloorDiv b pos) (LE c (dOp oDiv ta tb)) := pd_bin op_fdivW fit_div ha hb
theorem pd_mod {a b : Expr} {pos : Pos} {ta tb : DE} (ha : PE X a (LE c ta)) (hb : PE X b (LE c tb)) : PE X (.BinOp a .Mod b pos) (LE c (dOp oMod ta tb)) := pd_bin op_mod fit_mod ha hb
theorem pd_pow {a b : Expr} {pos : Pos} {ta tb : DE} (ha : PE X a (LE c ta)) (hb : PE X b (LE c tb)) : PE X (.BinOp a .Pow b pos) (LE c (dOp oPow ta tb)) := pd_bin op_pow fit_pow ha hb
theorem pd_ix (hK : c.K = X.K) {a b : Expr} {pos : Pos} {ta tb : DE} (ha : PE X a (LE c ta)) (hb : PE X b (LE c tb)) (hs : PlainIx b := by exact fun _ _ => rfl) : PE X (.Subscript a b pos) (LE c (dOp oIx ta tb)) :=
  (pe_ix ix_seq ha hb hs).weak fun σ H Q h => LE.op (fit_ix hK) σ H Q h
theorem pod_none : PO X none (LO c dON) := ⟨fun p s σ H Q I ⟨st, R, rp, q, f⟩ => po_none.run p s σ H Q I (f _ _ q H rp AdvE.refl)⟩
theorem pod_some {e : Expr} {t : DE} (h : PE X e (LE c t)) : PO X (some e) (LO c (dOS t)) := ⟨fun p s σ H Q I ⟨st, R, rp, q, f⟩ => (po_some h).run p s σ H Q I
  ⟨st, _, rp, q, fun d k ⟨i, hd, hR⟩ v H1 r1 a1 e1 => by
    subst hd
    exact ⟨i, e1.intE, f _ k hR H1 r1 a1⟩⟩⟩
theorem pd_slice (hK : c.K = X.K) {e : Expr} {lo hi : Option Expr} {p2 pos : Pos} {t : DE} {tl th : DO'} (he : PE X e (LE c t)) (hl : PO X lo (LO c tl)) (hh : PO X hi (LO c th)) : PE X (.Subscript e (.Slice lo hi none p2) pos) (LE c (dSl t tl th)) :=
  (pe_slice (SlR.or sl_list sl_tupA) he hl hh).weak fun σ H Q ⟨s, R, rp, q, f⟩ => by
    refine ⟨s, _, rp, q, fun x k h1 v H1 r1 a1 e1 => ⟨s.at k, _, r1, h1, fun l k2 h2 H2 r2 a2 => ⟨s.at k2, _, r2, h2, fun u k3 h3 H3 r3 a3 => ?_⟩⟩⟩
    exact fit_sl hK (s.at k3) σ H3 v x l u _ Q r3 ((e1.mono a2.sub).mono a3.sub) h3 fun z hz w H4 r4 a4 e4 => f z k3 hz w H4 r4 (((a1.trans a2).trans a3).trans a4) e4
end
end DL
namespace DL
open PySem L2
open PySem.W (Frag)
def Yl (c : C) (s0 : S) (Hs : Hp) (J : It) (items : List D) : Prop := ∀ (i : Nat) (s : S) (σ : L2.St) (H : Hp), Rep c s σ H → Adv c s0 Hs s H →
  (items.length ≤ i → J.stop i H) ∧ ∀ d, items[i]? = some d → J.go i H ∧ ∀ x H', J.yld i H x H' → Rep c s σ H' ∧ AdvE c s.X H H' ∧ Rl c.K (c.hid s.X H') x d
abbrev DI := S → (List D → Nat → Prop) → Prop
def LI (c : C) (t : DI) : TI := fun σ H R => ∃ s Z, Rep c s σ H ∧ t s Z ∧ ∀ items k, Z items k → ∀ J H', Rep c (s.at k) σ H' → AdvE c s.X H H' → Yl c s H' J items → R J H'
abbrev iSeq (t : DE) : DI := fun s Q => t s fun d k => ∃ ds, d.items = some ds ∧ Q ds k
abbrev iLst (t : DE) : DI := fun s Q => t s fun d k => ∃ ds, d = .lst ds ∧ Q ds k
abbrev iTp (t : DE) : DI := fun s Q => t s fun d k => ∃ ds, d = .tup ds ∧ Q ds k
@[reducible] def rngD (lo : Int) (n : Nat) : List D := (List.range n).map fun (i : Nat) => .int (lo + i)
abbrev iR1 (t : DE) : DI := fun s Q => t s fun d k => ∃ j, d = .int j ∧ -(2 ^ 62) ≤ j ∧ j < 2 ^ 62 ∧ Q (rngD 0 j.toNat) k
abbrev iR2 (t u : DE) : DI := fun s Q => t s fun d k => u (s.at k) fun e k' => ∃ i j, d = .int i ∧ e = .int j ∧ (-(2 ^ 62) ≤ i ∧ i < 2 ^ 62 ∧ -(2 ^ 62) ≤ j ∧ j < 2 ^ 62) ∧ Q (rngD i (j - i).toNat) k'
theorem rngD_at {lo : Int} {n i : Nat} {d : D} (h : (rngD lo n)[i]? = some d) : i < n ∧ d = .int (lo + i) := by
  unfold rngD at h
  rw [List.getElem?_map] at h
  by_cases hi : i < n
  · rw [List.getElem?_range hi] at h
    exact ⟨hi, (Option.some.inj h).symm⟩
  · rw [List.getElem?_eq_none (by rw [List.length_range]; omega)] at h
    cases h
theorem rngD_len (lo : Int) (n : Nat) : (rngD lo n).length = n := by unfold rngD; rw [List.length_map, List.length_range]
theorem Yl.range {c : C} {s0 : S} {Hs : Hp} {lo : Int} {n : Nat} : Yl c s0 Hs (Itr lo n) (rngD lo n) := fun i s σ H rp _ => by
  refine ⟨fun h => by rw [rngD_len] at h; exact h, fun d hd => ?_⟩
  obtain ⟨hi, rfl⟩ := rngD_at hd
  refine ⟨hi, fun x H' ⟨e1, e2⟩ => ?_⟩
  subst e1 e2
  exact ⟨rp, AdvE.refl, .int _⟩
theorem Yl.list {c : C} {s0 : S} {Hs : Hp} {K : Frag} {a : Addr} {vs : List V} {ds : List D} (hK : c.K = K) (h : c.hid s0.X Hs a = some (.lst vs)) (r : RlA c.K (c.hid s0.X Hs) vs ds) : Yl c s0 Hs (Itl K a) ds := fun i s σ H rp ad => by
  have h1 : SqL K H a vs := SqL.of (wo_sub _ _ _ _ (ad _ _ h))
  have r1 := r.mono ad
  refine ⟨fun hl => ⟨vs, h1, by rw [r.len]; exact hl⟩, fun d hd => ?_⟩
  obtain ⟨v, hv, hr⟩ := r1.getD hd
  refine ⟨⟨vs, v, h1, hv⟩, fun x H' ⟨e1, e2⟩ => ?_⟩
  subst e1
  have e3 := e2 vs h1
  rw [hv] at e3
  cases e3
  exact ⟨rp, AdvE.refl, hr⟩
theorem Yl.tup {c : C} {s0 : S} {Hs : Hp} {K : Frag} {a : Addr} {vs : List V} {ds : List D} (hK : c.K = K) (h : SqT c.K (c.hid s0.X Hs) a vs) (r : RlA c.K (c.hid s0.X Hs) vs ds) : Yl c s0 Hs (Itt K a) ds := fun i s σ H rp ad => by
  subst hK
  have h1 : SqT c.K H a vs := (ad.trans (wo_sub _ _)).st h
  have r1 := r.mono ad
  refine ⟨fun hl => ⟨vs, h1, by rw [r.len]; exact hl⟩, fun d hd => ?_⟩
  obtain ⟨v, hv, hr⟩ := r1.getD hd
  refine ⟨⟨vs, v, h1, hv⟩, fun x H' ⟨e1, e2⟩ => ?_⟩
  subst e1
  have e3 := e2 vs h1
  rw [hv] at e3
  cases e3
  exact ⟨rp, AdvE.refl, hr⟩
@[reducible] def pairD (as bs : List D) : List D := (as.zip bs).map fun p => .tup [p.1, p.2]
@[reducible] def enumD (n : Nat) : List D → List D
  | [] => []
  | d :: r => .tup [.int n, d] :: enumD (n + 1) r
theorem enum_at : ∀ {ds : List D} {n i : Nat} {d : D}, (enumD n ds)[i]? = some d → ∃ e, ds[i]? = some e ∧ d = .tup [.int ((n + i : Nat) : Int), e]
  | [], _, _, _, h => by cases h
  | e :: r, n, 0, d, h => ⟨e, rfl, (Option.some.inj h).symm⟩
  | e :: r, n, i + 1, d, h => by
    obtain ⟨x, h1, h2⟩ := enum_at (ds := r) (n := n + 1) (i := i) h
    exact ⟨x, h1, by rw [h2]; congr 3; omega⟩
theorem enum_len : ∀ (ds : List D) (n : Nat), (enumD n ds).length = ds.length
  | [], _ => rfl
  | _ :: r, n => congrArg (· + 1) (enum_len r (n + 1))
theorem Yl.pair {c : C} {s : S} {σ : L2.St} {H : Hp} {T : Addr} {x y : V} {d e : D} (rp : Rep c s σ H) (hT : H T = none) (h1 : Rl c.K (c.hid s.X H) x d) (h2 : Rl c.K (c.hid s.X H) y e) :
    Rep c s σ (upd H T (.tup [x, y])) ∧ AdvE c s.X H (upd H T (.tup [x, y])) ∧ Rl c.K (c.hid s.X (upd H T (.tup [x, y]))) (.ref T) (.tup [d, e]) := by
  have n := rp.new (o := .tup [x, y]) hT
  exact ⟨n.1, n.2, .tup (SqT.of (rp.at_new hT)) (.cons (h1.mono n.2.sub) (.cons (h2.mono n.2.sub) .nil))⟩
theorem Yl.enum {c : C} {s0 : S} {Hs : Hp} {K : Frag} {a : Addr} {vs : List V} {ds : List D} (hK : c.K = K) (h : c.hid s0.X Hs a = some (.lst vs)) (r : RlA c.K (c.hid s0.X Hs) vs ds) : Yl c s0 Hs (Ite K a) (enumD 0 ds) := fun i s σ H rp ad => by
  have h1 : SqL K H a vs := SqL.of (wo_sub _ _ _ _ (ad _ _ h))
  have r1 := r.mono ad
  refine ⟨fun hl => ⟨vs, h1, by rw [r.len, ← enum_len ds 0]; exact hl⟩, fun d hd => ?_⟩
  obtain ⟨e, he, rfl⟩ := enum_at hd
  obtain ⟨v, hv, hr⟩ := r1.getD he
  refine ⟨⟨vs, v, h1, hv⟩, fun x H' ⟨T, y, e1, e2, e3, e4⟩ => ?_⟩
  subst e1 e3
  have e5 := e4 vs h1
  rw [hv] at e5
  cases e5
  rw [Nat.zero_add]
  exact Yl.pair rp e2 (.int _) hr
theorem pair_at {as bs : List D} {i : Nat} {d : D} (h : (pairD as bs)[i]? = some d) : ∃ x y, as[i]? = some x ∧ bs[i]? = some y ∧ d = .tup [x, y] := by
  unfold pairD at h
  rw [List.getElem?_map] at h
  cases e : (as.zip bs)[i]? with
  | none => rw [e] at h; cases h
  | some p =>
    rw [e] at h
    obtain ⟨h1, h2⟩ := List.getElem?_zip_eq_some.mp e
    exact ⟨p.1, p.2, h1, h2, (Option.some.inj h).symm⟩
theorem pair_len (as bs : List D) : (pairD as bs).length = min as.length bs.length := by unfold pairD; rw [List.length_map, List.length_zip]
theorem Yl.zipT {c : C} {s0 : S} {Hs : Hp} {K : Frag} {a b : Addr} {vs us : List V} {ds es : List D} (hK : c.K = K) (h : SqT c.K (c.hid s0.X Hs) a vs) (r : RlA c.K (c.hid s0.X Hs) vs ds)
    (h' : SqT c.K (c.hid s0.X Hs) b us) (r' : RlA c.K (c.hid s0.X Hs) us es) : Yl c s0 Hs (RZ.ItzT K a b) (pairD ds es) := fun i s σ H rp ad => by
  subst hK
  have h1 : SqT c.K H a vs := (ad.trans (wo_sub _ _)).st h
  have h2 : SqT c.K H b us := (ad.trans (wo_sub _ _)).st h'
  have r1 := r.mono ad
  have r2 := r'.mono ad
  refine ⟨fun hl => ⟨vs, us, h1, h2, by rw [pair_len] at hl; rw [r.len, r'.len]; omega⟩, fun d hd => ?_⟩
  obtain ⟨x, y, hx, hy, rfl⟩ := pair_at hd
  obtain ⟨v, hv, hr⟩ := r1.getD hx
  obtain ⟨u, hu, hr'⟩ := r2.getD hy
  refine ⟨⟨vs, us, v, u, h1, h2, hv, hu⟩, fun z H' ⟨T, v', u', e1, e2, e3, e4, e5⟩ => ?_⟩
  subst e1 e3
  have q1 := e4 vs h1
  have q2 := e5 us h2
  rw [hv] at q1
  rw [hu] at q2
  cases q1
  cases q2
  exact Yl.pair rp e2 hr hr'
section
variable {X : Cx} {c : C} {tg : Expr}
theorem PI.weak {iter : Expr} {t t' : TI} (h : PI X tg iter t) (w : ∀ σ H R, t' σ H R → t σ H R) : PI X tg iter t' := ⟨fun p s σ H R I q => h.run p s σ H R I (w _ _ _ q)⟩
theorem pid_list (hK : c.K = X.K) {l : Expr} {t : DE} (h : PE X l (LE c t)) : PI X tg l (LI c (iLst t)) :=
  PI.weak (pi_list h) fun σ H R ⟨s, Z, rp, q, f⟩ => ⟨s, _, rp, q, fun d k ⟨ds, hd, hz⟩ v H1 r1 a1 e1 => by
    subst hd
    obtain ⟨a, vs, rfl, h1, r⟩ := e1.lstE
    exact ⟨a, rfl, ⟨vs, SqL.of (wo_sub _ _ _ _ h1)⟩, f ds k hz _ H1 r1 a1 (Yl.list hK h1 r)⟩⟩
theorem pid_tup (hK : c.K = X.K) {l : Expr} {t : DE} (h : PE X l (LE c t)) : PI X tg l (LI c (iTp t)) :=
  PI.weak (pi_tup h) fun σ H R ⟨s, Z, rp, q, f⟩ => ⟨s, _, rp, q, fun d k ⟨ds, hd, hz⟩ v H1 r1 a1 e1 => by
    subst hd
    obtain ⟨a, vs, rfl, h1, r⟩ := e1.tupE
    exact ⟨a, rfl, ⟨vs, hK ▸ (wo_sub _ _).st h1⟩, f ds k hz _ H1 r1 a1 (Yl.tup hK h1 r)⟩⟩
theorem pid_r1 {a : Expr} {t : DE} {p pos : Pos} (hm : X.mg "range" = none) (ha : PE X a (LE c t)) (hg : Gl X "range" := by rfl) (hs : starEach [a] X.env = [(false, eval a X.env)] := by rfl) : PI X tg (.Call (.Name "range" p) [a] [] pos) (LI c (iR1 t)) :=
  PI.weak (pi_range1 hg hm (pad_cons ha pad_nil hs) hs) fun σ H R ⟨s, Z, rp, q, f⟩ =>
    ⟨s, fun ds k => (match ds with | [d] => ∃ j, d = .int j ∧ -(2 ^ 62) ≤ j ∧ j < 2 ^ 62 ∧ Z (rngD 0 j.toNat) k | _ => False), rp, q, fun ds k hq vs H1 r1 a1 e1 => by
      cases e1 with
      | nil => exact hq.elim
      | cons e1 e2 =>
        cases e2 with
        | cons _ _ => exact hq.elim
        | nil =>
          obtain ⟨j, hd, h1, h2, hz⟩ := hq
          subst hd
          cases e1.intE
          exact ⟨j, rfl, h1, h2, f _ k hz _ H1 r1 a1 Yl.range⟩⟩
theorem pid_r2 {a b : Expr} {t u : DE} {p pos : Pos} (hm : X.mg "range" = none) (ha : PE X a (LE c t)) (hb : PE X b (LE c u)) (hg : Gl X "range" := by rfl) (hs : starEach [a, b] X.env = [(false, eval a X.env), (false, eval b X.env)] := by rfl) (hs2 : starEach [b] X.env = [(false, eval b X.env)] := by rfl) :
    PI X tg (.Call (.Name "range" p) [a, b] [] pos) (LI c (iR2 t u)) :=
  PI.weak (pi_range2 hg hm (pad_cons ha (pad_cons hb pad_nil hs2) (by rw [hs, hs2])) hs hs2) fun σ H R ⟨s, Z, rp, q, f⟩ =>
    ⟨s, fun ds k => (match ds with | [d, e] => ∃ i j, d = .int i ∧ e = .int j ∧ (-(2 ^ 62) ≤ i ∧ i < 2 ^ 62 ∧ -(2 ^ 62) ≤ j ∧ j < 2 ^ 62) ∧ Z (rngD i (j - i).toNat) k | _ => False), rp, q, fun ds k hq vs H1 r1 a1 e1 => by
      cases e1 with
      | nil => exact hq.elim
      | cons e1 e2 =>
        cases e2 with
        | nil => exact hq.elim
        | cons e2 e3 =>
          cases e3 with
          | cons _ _ => exact hq.elim
          | nil =>
            obtain ⟨i, j, hd, he, h1, hz⟩ := hq
            subst hd he
            cases e1.intE
            cases e2.intE
            exact ⟨i, j, rfl, h1, f _ k hz _ H1 r1 a1 Yl.range⟩⟩
abbrev iZp (t u : DE) : DI := fun s Q => t s fun d k => u (s.at k) fun e k' => ∃ ds es, d = .tup ds ∧ e = .tup es ∧ Q (pairD ds es) k'
theorem pid_zip (hK : c.K = X.K) {e e2 : Expr} {t u : DE} {p pos tpos : Pos} {elts : List Expr} {kk : Nat} (hm : X.mg "zip" = none) (h : PE X e (LE c t)) (h' : PE X e2 (LE c u)) (hg : Gl X "zip" := by rfl)
    (hs : starEach [e, e2] X.env = (false, eval e X.env) :: starEach [e2] X.env := by rfl) (hs2 : starEach [e2] X.env = (false, eval e2 X.env) :: starEach [] X.env := by rfl) (hpl : (backTo pos (starEach [e2] X.env)).any (·.1) = false := by rfl) :
    PI X (.Tuple elts kk tpos) (.Call (.Name "zip" p) [e, e2] [] pos) (LI c (iZp t u)) :=
  PI.weak (RZ.pi_zipA hg hm (pad_cons h (pad_cons h' pad_nil hs2) hs) hs hpl) fun σ H R ⟨s, Z, rp, q, f⟩ =>
    ⟨s, fun ds k => (match ds with | [d, e] => ∃ ds es, d = .tup ds ∧ e = .tup es ∧ Z (pairD ds es) k | _ => False), rp, q, fun ds k hq vs H1 r1 a1 e1 => by
      cases e1 with
      | nil => exact hq.elim
      | cons e1 e2 =>
        cases e2 with
        | nil => exact hq.elim
        | cons e2 e3 =>
          cases e3 with
          | cons _ _ => exact hq.elim
          | nil =>
            obtain ⟨i, j, hd, he, hz⟩ := hq
            subst hd he
            obtain ⟨a, vs, rfl, h1, r⟩ := e1.tupE
            obtain ⟨b, us, rfl, h2, r'⟩ := e2.tupE
            exact ⟨a, b, vs, us, rfl, .inr ⟨hK ▸ (wo_sub _ _).st h1, hK ▸ (wo_sub _ _).st h2, f _ k hz _ H1 r1 a1 (Yl.zipT hK h1 r h2 r')⟩⟩⟩
end
end DL
namespace DL
open PySem L2
open PySem.W (Frag)
abbrev S.put (s : S) (i : Nat) (x : Sl) : S := { s with sl := s.sl.set i x }
theorem get_set_cases {α : Type} {l : List α} {i j : Nat} {x y : α} (h : (l.set i x)[j]? = some y) : (i = j ∧ y = x ∧ j < l.length) ∨ (i ≠ j ∧ l[j]? = some y) := by
  by_cases e : i = j
  · subst e
    by_cases hl : i < l.length
    · rw [List.getElem?_set_self hl] at h
      exact .inl ⟨rfl, (Option.some.inj h).symm, hl⟩
    · rw [List.getElem?_eq_none (by rw [List.length_set]; omega)] at h
      cases h
  · rw [List.getElem?_set_ne e] at h
    exact .inr ⟨e, h⟩
theorem Rep.put {c : C} {s : S} {σ : L2.St} {H : Hp} {i : Nat} {v : V} {x : Sl} (r : Rep c s σ H) (h : SlOk c s.X H (some (some v)) x) (ha : ∀ p ds, x = .own p ds → ∀ j q es, s.sl[j]? = some (.own q es) → j ≠ i → p ≠ q) : Rep c (s.put i x) (σ.set i (some v)) H := by
  refine ⟨r.sub, r.old, r.x0, r.xm, r.xs, r.m, fun j y e => ?_, fun j k p q ds es e1 e2 ne => ?_, by rw [List.length_set, List.length_set]; exact r.len, r.tb, r.xt⟩
  · rcases get_set_cases e with ⟨rfl, rfl, hl⟩ | ⟨ne, e⟩
    · rw [List.getElem?_set_self (by rw [← r.len]; exact hl)]
      exact h
    · rw [List.getElem?_set_ne ne]
      exact r.slot j y e
  · rcases get_set_cases e1 with ⟨rfl, e1, _⟩ | ⟨n1, e1⟩
    · rcases get_set_cases e2 with ⟨rfl, _, _⟩ | ⟨n2, e2⟩
      · exact absurd rfl ne
      · exact ha p ds e1.symm k q es e2 (fun z => n2 z.symm)
    · rcases get_set_cases e2 with ⟨rfl, e2, _⟩ | ⟨n2, e2⟩
      · exact fun z => ha q es e2.symm j p ds e1 (fun z => n1 z.symm) z.symm
      · exact r.apart j k p q ds es e1 e2 ne
theorem Rep.putD {c : C} {s : S} {σ : L2.St} {H : Hp} {i : Nat} {v : V} {d : D} (r : Rep c s σ H) (h : Rl c.K (c.hid s.X H) v d) : Rep c (s.put i (.dat d)) (σ.set i (some v)) H := r.put ⟨v, rfl, h⟩ fun p ds e => nomatch e
theorem Rep.wipe1 {c : C} {s : S} {σ : L2.St} {H : Hp} {i : Nat} (r : Rep c s σ H) : Rep c (s.put i .no) (σ.set i none) H := by
  refine ⟨r.sub, r.old, r.x0, r.xm, r.xs, r.m, fun j y e => ?_, fun j k p q ds es e1 e2 ne => ?_, by rw [List.length_set, List.length_set]; exact r.len, r.tb, r.xt⟩
  · rcases get_set_cases e with ⟨rfl, rfl, hl⟩ | ⟨ne, e⟩
    · trivial
    · rw [List.getElem?_set_ne ne]
      exact r.slot j y e
  · rcases get_set_cases e1 with ⟨rfl, e1, _⟩ | ⟨n1, e1⟩
    · cases e1
    · rcases get_set_cases e2 with ⟨rfl, e2, _⟩ | ⟨n2, e2⟩
      · cases e2
      · exact r.apart j k p q ds es e1 e2 ne
@[reducible] def S.wipe (s : S) : List Nat → S
  | [] => s
  | v :: vs => (s.wipe vs).put v .no
theorem S.wipe_X (s : S) : ∀ vs, (s.wipe vs).X = s.X ∧ (s.wipe vs).k = s.k
  | [] => ⟨rfl, rfl⟩
  | v :: vs => s.wipe_X vs
theorem Rep.wipe {c : C} {s : S} {σ : L2.St} {H : Hp} (r : Rep c s σ H) : ∀ vs, Rep c (s.wipe vs) (L2.wipe σ vs) H
  | [] => r
  | v :: vs => (r.wipe vs).wipe1
abbrev DG := D → S → (S → Prop) → Prop
abbrev DGs := List D → S → (S → Prop) → Prop
def LG (c : C) (ts : List Nat) (t : DG) : TG := fun v σ H Q => ∃ s R d, Rep c s σ H ∧ Rl c.K (c.hid s.X H) v d ∧ t d s R ∧ ∀ s', R s' → ∀ σ' H', Rep c s' σ' H' → AdvE c s.X H H' → s'.X = s.X → (∀ j, j ∉ ts → σ'[j]? = σ[j]?) → σ'.length = σ.length → Q σ' H'
def LGs (c : C) (ts : List Nat) (t : DGs) : TGs := fun v σ H Q => ∃ s R d, Rep c s σ H ∧ RlA c.K (c.hid s.X H) v d ∧ t d s R ∧ ∀ s', R s' → ∀ σ' H', Rep c s' σ' H' → AdvE c s.X H H' → s'.X = s.X → (∀ j, j ∉ ts → σ'[j]? = σ[j]?) → σ'.length = σ.length → Q σ' H'
abbrev dgN (i : Nat) : DG := fun d s Q => Q (s.put i (.dat d))
abbrev dgNil : DGs := fun ds s Q => ds = [] ∧ Q s
abbrev dgCons (t : DG) (u : DGs) : DGs := fun ds s Q => match ds with | d :: r => t d s fun s' => u r s' Q | [] => False
abbrev dgTup (n : Nat) (t : DGs) : DG := fun d s Q => match d with | .tup ds => ds.length = n ∧ t ds s Q | _ => False
section
variable {X : Cx} {c : C} {pos : Pos}
theorem PG.weak {tg : Expr} {t t' : TG} (h : PG X tg t) (w : ∀ v σ H Q, t' v σ H Q → t v σ H Q) : PG X tg t' := ⟨fun p s σ H v u Q I r q => h.run p s σ H v u Q I r (w _ _ _ _ q)⟩
theorem PGs.weak {tg : List Expr} {t t' : TGs} (h : PGs X tg t) (w : ∀ v σ H Q, t' v σ H Q → t v σ H Q) : PGs X tg t' := ⟨fun p s σ H v u Q I r q => h.run p s σ H v u Q I r (w _ _ _ _ q)⟩
theorem pgd_name (i : Nat) {x : PySem.Str} (hN : X.N.Nodup) (hi : X.N[i]? = some x := by rfl) (hx : Loc X.env.scope x := by first | exact Or.inl rfl | exact Or.inr rfl) (hf : X.fn x = true ∨ X.env.scope.names.lookup x = some .local := by first | exact .inl rfl | exact .inr rfl) : PG X (.Name x pos) (LG c [i] (dgN i)) :=
  PG.weak (pg_name hN hi hx hf) fun v σ H Q ⟨s, R, d, rp, e, q, f⟩ => f _ q _ H (rp.putD e) AdvE.refl rfl (fun j hj => List.getElem?_set_ne (fun z => hj (by simp [z]))) (List.length_set ..)
theorem pgds_nil : PGs X [] (LGs c [] dgNil) := PGs.weak pgs_nil fun v σ H Q ⟨s, R, d, rp, e, ⟨q1, q2⟩, f⟩ => by
  subst q1
  cases e
  exact ⟨rfl, f _ q2 _ H rp AdvE.refl rfl (fun _ _ => rfl) rfl⟩
theorem pgds_cons {e : Expr} {es : List Expr} {ts us : List Nat} {t : DG} {u : DGs} (h1 : PG X e (LG c ts t)) (h2 : PGs X es (LGs c us u)) (hs : (assignEach (e :: es) X.env).map (·.2) = assign e X.env :: (assignEach es X.env).map (·.2) := by rfl) : PGs X (e :: es) (LGs c (ts ++ us) (dgCons t u)) :=
  PGs.weak (pgs_cons h1 h2 hs) fun vs σ H Q ⟨s, R, ds, rp, r, q, f⟩ => by
    cases r with
    | nil => exact q.elim
    | cons r1 rr =>
      refine ⟨_, _, rfl, s, _, _, rp, r1, q, fun s1 q1 σ1 H1 rp1 a1 x1 k1 l1 => ?_⟩
      refine ⟨s1, _, _, rp1, ?_, q1, fun s2 q2 σ2 H2 rp2 a2 x2 k2 l2 => f s2 q2 σ2 H2 rp2 (a1.trans (x1 ▸ a2)) (x2.trans x1) (fun j hj => ?_) (l2.trans l1)⟩
      · rw [x1]; exact rr.mono a1.sub
      · rw [k2 j fun z => hj (List.mem_append_right _ z), k1 j fun z => hj (List.mem_append_left _ z)]
theorem pgd_tup (hK : c.K = X.K) (hc : X.calm = true) {es : List Expr} {kk : Nat} {ts : List Nat} {t : DGs} {n : Nat} (h : PGs X es (LGs c ts t)) (hn : (assignEach es X.env).length = n := by rfl) (hst : (assignEach es X.env).findIdx? (·.1) = none := by rfl) : PG X (.Tuple es kk pos) (LG c ts (dgTup n t)) :=
  PG.weak (pg_tup hc h hn hst) fun v σ H Q ⟨s, R, d, rp, r, q, f⟩ => by
    cases d <;> first | exact q.elim | skip
    obtain ⟨a, vs, rfl, h1, r1⟩ := r.tupE
    exact ⟨a, vs, rfl, hK ▸ (wo_sub _ _).st h1, r1.len.trans q.1, s, R, _, rp, r1, q.2, f⟩
end
abbrev S.own (s : S) (p : Addr) (k : Nat) : S := { s with X := p :: s.X, k := k }
structure NewL (c : C) (s : S) (σ : L2.St) (H : Hp) (p : Addr) (k : Nat) (ds : List D) (H' : Hp) : Prop where
  rep : Rep c (s.own p k) σ H'
  sub : Sub (c.hid s.X H) (c.hid (p :: s.X) H')
  own : ∀ a ∈ s.X, H' a = H a
  out : p ∉ s.X
  out0 : p ∉ c.X0
  new : c.H0 p = none
  vals : ∃ vs, H' p = some (.lst vs) ∧ RlA c.K (c.hid (p :: s.X) H') vs ds
def LF (c : C) (t : DA) : TE := fun σ H Q => ∃ s R, Rep c s σ H ∧ t s R ∧ ∀ ds k, R ds k → ∀ p H', NewL c s σ H p k ds H' → Q (.ref p) H'
abbrev dFr (t : DA) : DE := fun s Q => t s fun ds k => Q (.lst ds) k
theorem hid_cons (c : C) (p : Addr) (X : List Addr) (H : Hp) : Sub (c.hid (p :: X) H) (c.hid X H) := wo_more fun a h => by
  rcases List.mem_append.mp h with h | h
  · exact List.mem_append_left _ h
  · exact List.mem_append_right _ (List.mem_cons_of_mem _ h)
theorem Rep.nofree {c : C} {s : S} {σ : L2.St} {H : Hp} {p : Addr} (r : Rep c s σ H) (hp : H p = none) : p ∉ s.X ∧ p ∉ Ml c.M ∧ p ∉ c.X0 ∧ c.H0 p = none := by
  have h1 : p ∉ s.X := fun z => r.xs p z hp
  have h2 : p ∉ Ml c.M := fun z => r.m.there p z hp
  have h3 : p ∉ c.X0 := fun z => h1 (r.x0 p z)
  refine ⟨h1, h2, h3, ?_⟩
  cases e : c.H0 p with
  | none => rfl
  | some o =>
    by_cases t : NoTb o
    · have q := r.sub p o (wo_of (by intro z; rcases List.mem_append.mp z with z | z; exact h2 z; exact h3 z) e t)
      rw [(wo_ne q).2] at hp
      cases hp
    · exfalso
      refine t fun ps z => ?_
      subst z
      obtain ⟨qs, q⟩ := r.tb.tbl p ps e
      rw [hp] at q
      cases q
theorem Rep.hide {c : C} {s : S} {σ : L2.St} {H : Hp} {p : Addr} {o : HO} (r : Rep c s σ H) (hp : H p = none) (ht : NoTb o := by intro _ z; cases z) : Rep c (s.own p s.k) σ (upd H p o) ∧ Sub (c.hid s.X H) (c.hid (p :: s.X) (upd H p o)) := by
  obtain ⟨n1, n2, n3, n4⟩ := r.nofree hp
  have sb : Sub (c.hid s.X H) (c.hid (p :: s.X) (upd H p o)) := fun a u e => by
    obtain ⟨n, e⟩ := wo_ne e
    have np : a ≠ p := ne_of_none e hp
    refine wo_of (fun z => ?_) (by rw [upd_ne np]; exact e)
    rcases List.mem_append.mp z with z | z
    · exact n (List.mem_append_left _ z)
    · rcases List.mem_cons.mp z with z | z
      · exact np z
      · exact n (List.mem_append_right _ z)
  have eq : ∀ a, H a ≠ none → upd H p o a = H a := fun a h => upd_ne fun z => h (z ▸ hp)
  refine ⟨⟨r.sub.trans sb, fun a ha hm hn => ?_, fun a ha => List.mem_cons_of_mem _ (r.x0 a ha), fun a ha => ?_, fun a ha => ?_, r.m.eq (fun a ha hn => eq a hn) (.new hp), fun i x e => ?_, r.apart, r.len, r.tb.trans (.new hp), fun a ha => (List.mem_cons.mp ha).elim (fun z => by rw [z, upd_same]; exact fun ps e => ht ps (Option.some.inj e)) fun z => by rw [eq a (r.xs a z)]; exact r.xt a z⟩, sb⟩
  · rw [eq a (r.xs a (r.x0 a ha))]; exact r.old a ha hm hn
  · rcases List.mem_cons.mp ha with z | z
    · rw [z]; exact n2
    · exact r.xm a z
  · rcases List.mem_cons.mp ha with z | z
    · rw [z, upd_same]; simp
    · rw [eq a (r.xs a z)]; exact r.xs a z
  · have q := r.slot i x e
    cases x with
    | no => trivial
    | dat d =>
      obtain ⟨v, e, h⟩ := q
      exact ⟨v, e, h.mono sb⟩
    | own w ds =>
      obtain ⟨e, h1, h2, h3, vs, h4, h5⟩ := q
      exact ⟨e, List.mem_cons_of_mem _ h1, h2, h3, vs, by rw [eq w (r.xs w h1)]; exact h4, h5.mono sb⟩
    | mst => exact q
    | kds N Z => exact q
    | scr ns =>
      obtain ⟨v, e, h⟩ := q
      exact ⟨v, e, sb.sl h⟩
theorem Rep.show {c : C} {s : S} {σ : L2.St} {H : Hp} {p : Addr} {k : Nat} (r : Rep c (s.own p k) σ H) (hp : p ∉ s.X) (h0 : p ∉ c.X0) (hs : ∀ (i : Nat) (ds : List D), s.sl[i]? ≠ some (.own p ds)) : Rep c (s.at k) σ H := by
  have sb := hid_cons c p s.X H
  refine ⟨r.sub.trans sb, r.old, fun a ha => ?_, fun a ha => r.xm a (List.mem_cons_of_mem _ ha), fun a ha => r.xs a (List.mem_cons_of_mem _ ha), r.m, fun i x e => ?_, r.apart, r.len, r.tb, fun a ha => r.xt a (List.mem_cons_of_mem _ ha)⟩
  · rcases List.mem_cons.mp (r.x0 a ha) with z | z
    · exact absurd (z ▸ ha) h0
    · exact z
  · have q := r.slot i x e
    cases x with
    | no => trivial
    | dat d =>
      obtain ⟨v, e, h⟩ := q
      exact ⟨v, e, h.mono sb⟩
    | own w ds =>
      obtain ⟨e', h1, h2, h3, vs, h4, h5⟩ := q
      refine ⟨e', ?_, h2, h3, vs, h4, h5.mono sb⟩
      rcases List.mem_cons.mp h1 with z | z
      · exact absurd (z ▸ e) (hs i ds)
      · exact z
    | mst => exact q
    | kds N Z => exact q
    | scr ns =>
      obtain ⟨v, e, h⟩ := q
      exact ⟨v, e, sb.sl h⟩
theorem Rep.noslot {c : C} {s : S} {σ : L2.St} {H : Hp} {p : Addr} (r : Rep c s σ H) (hp : p ∉ s.X) (i : Nat) (ds : List D) : s.sl[i]? ≠ some (.own p ds) := fun e => hp (r.slot i _ e).2.1
section
variable {X : Cx} {c : C}
theorem LF.data {t : DA} {σ : L2.St} {H : Hp} {Q : VK} (h : LE c (dFr t) σ H Q) : LF c t σ H Q := by
  obtain ⟨s, R, rp, q, f⟩ := h
  refine ⟨s, _, rp, q, fun ds k hR p H' n => ?_⟩
  have sb := hid_cons c p s.X H'
  obtain ⟨vs, h1, h2⟩ := n.vals
  refine f _ k hR _ H' (n.rep.show n.out n.out0 (fun i es => rp.noslot n.out i es)) ⟨n.sub.trans sb, n.own⟩ (.lst (wo_of ?_ h1) (h2.mono sb))
  intro z
  rcases List.mem_append.mp z with z | z
  · exact n.rep.xm p List.mem_cons_self z
  · exact n.out z
theorem pd_fr {e : Expr} {t : DA} (h : PE X e (LF c t)) : PE X e (LE c (dFr t)) := h.weak fun σ H Q q => LF.data q
theorem NewL.mk' {s : S} {σ : L2.St} {H H1 : Hp} {k : Nat} {ds : List D} {vs : List V} {p : Addr} (r : Rep c (s.at k) σ H1) (a : AdvE c s.X H H1) (e : RlA c.K (c.hid s.X H1) vs ds) (hp : H1 p = none) : NewL c s σ H p k ds (upd H1 p (.lst vs)) := by
  obtain ⟨n1, n2, n3, n4⟩ := r.nofree hp
  have h := r.hide (o := .lst vs) hp
  exact ⟨h.1, a.sub.trans h.2, fun x hx => by rw [upd_ne (fun z => n1 (show p ∈ s.X by rw [← z]; exact hx))]; exact a.own x hx, n1, n3, n4, vs, upd_same, e.mono h.2⟩
abbrev dLs (t : DA) : DA := fun s Q => t s fun ds k => ds.length ≤ lim ∧ Q ds k
theorem pdf_lst {es : List Expr} {pos : Pos} {t : DA} (h : PA X es (LA c t)) : PE X (.List es pos) (LF c (dLs t)) :=
  (pe_lst h).weak fun σ H Q ⟨s, R, rp, q, f⟩ => ⟨s, _, rp, q, fun ds k ⟨hl, hR⟩ vs H1 r1 a1 e1 => ⟨by rw [e1.len]; exact lim_le hl, fun p hp => f ds k hR p _ (NewL.mk' r1 a1 e1 hp)⟩⟩
end
end DL
namespace DL
open PySem L2
open PySem.W (Frag)
abbrev dLc (it : DI) (g : DG) (tt : DT) (te : DE) (vs : List Nat) : DA := fun s Q => it s fun items k0 => items.length ≤ lim ∧ ∀ p, p ∉ s.X → ∃ Inv : Nat → List D → Nat → Prop, Inv 0 [] k0 ∧
  (∀ i d acc k, items[i]? = some d → Inv i acc k → acc.length ≤ i → g d (((s.own p k).wipe vs)) fun s2 => tt s2 fun b k2 => if b = true then te (s2.at k2) fun y k3 => Inv (i + 1) (acc ++ [y]) k3 else Inv (i + 1) acc k2) ∧
  ∀ acc k, Inv items.length acc k → acc.length ≤ items.length → Q acc k
abbrev dY : DT := fun s Q => Q true s.k
theorem wipe_ext {vs : List Nat} : ∀ {σ τ : L2.St}, σ.length = τ.length → (∀ j, j ∉ vs → σ[j]? = τ[j]?) → wipe σ vs = wipe τ vs := by
  have get : ∀ (vs : List Nat) (σ : L2.St) (j : Nat), (wipe σ vs)[j]? = if j ∈ vs then (if j < σ.length then some none else none) else σ[j]? := by
    intro vs
    induction vs with
    | nil => intro σ j; simp [wipe]
    | cons v r ih =>
      intro σ j
      show ((wipe σ r).set v none)[j]? = _
      by_cases e : v = j
      · subst e
        by_cases hl : v < σ.length
        · rw [List.getElem?_set_self (by rw [wipe_length]; exact hl)]
          simp [hl]
        · rw [List.getElem?_eq_none (by rw [List.length_set, wipe_length]; omega)]
          simp [hl]
      · rw [List.getElem?_set_ne e, ih]
        have : j ≠ v := fun z => e z.symm
        simp [this]
  intro σ τ hl h
  refine List.ext_getElem? fun j => ?_
  rw [get, get]
  by_cases hj : j ∈ vs
  · simp [hj, hl]
  · simp [hj, h j hj]
theorem pts_none {X : Cx} {c : C} : PTs X [] (LT c dY) := ⟨fun pins s σ H Q I ⟨st, R, rp, q, f⟩ => pts_nil.run pins s σ H Q I (f _ _ q H rp AdvE.refl)⟩
theorem ptsd_one {X : Cx} {c : C} {e : Expr} {t : DT} (h : PT X e (LT c t)) : PTs X [e] (LT c t) := pts_one h
theorem lc_imp {c : C} {own : List (PySem.Str × Nat)} {wi : DI} {g : DG} {tt : DT} {te : DE} {ts : List Nat} (hts : ∀ j ∈ ts, j ∈ own.map (·.2)) (σ : L2.St) (H : Hp) (Q : VK) (h : LF c (dLc wi g tt te (own.map (·.2))) σ H Q) :
    tLc (LI c wi) (LG c ts g) (LT c tt) (LE c te) (own.map (·.2)) σ H Q := by
    obtain ⟨s, R, rp, q, f⟩ := h
    refine ⟨s, _, rp, q, fun items k0 hz J H1 r1 a1 yl D hD => ?_⟩
    obtain ⟨hl, hz⟩ := hz
    obtain ⟨n1, n2, n3, n4⟩ := r1.nofree hD
    obtain ⟨Inv, i0, turn, fin⟩ := hz D n1
    have hid0 := r1.hide (o := .lst []) hD
    -- the state at turn i: D holds the values of acc
    refine ⟨fun i m H' => m = items.length - i ∧ i ≤ items.length ∧ ∃ acc vs k, Inv i acc k ∧ acc.length ≤ i ∧ H' D = some (.lst vs) ∧ Rep c (s.own D k) σ H' ∧ Sub (c.hid s.X H1) (c.hid (D :: s.X) H') ∧ (∀ a ∈ s.X, H' a = H1 a) ∧ RlA c.K (c.hid (D :: s.X) H') vs acc,
      ⟨items.length, by simp, Nat.zero_le _, [], [], k0, i0, Nat.le_refl _, upd_same, hid0.1, hid0.2, fun a ha => upd_ne fun z => n1 (show D ∈ s.X by rw [← z]; exact ha), .nil⟩, ?_⟩
    rintro i m H' ⟨rfl, hi', acc, vs, k, hI, hlen, hD', rp', sb, ow, ra⟩
    obtain ⟨yl1, yl2⟩ := yl i (s.own D k) σ H' rp' sb
    by_cases hlt : i < items.length
    · obtain ⟨d, hd⟩ : ∃ d, items[i]? = some d := ⟨items[i], by simp [hlt]⟩
      obtain ⟨go, yd⟩ := yl2 d hd
      refine .inr ⟨go, fun H'' => ∃ acc vs k, Inv (i + 1) acc k ∧ acc.length ≤ i + 1 ∧ H'' D = some (.lst vs) ∧ Rep c (s.own D k) σ H'' ∧ Sub (c.hid s.X H1) (c.hid (D :: s.X) H'') ∧ (∀ a ∈ s.X, H'' a = H1 a) ∧ RlA c.K (c.hid (D :: s.X) H'') vs acc,
        fun H'' ⟨acc, vs, k, h⟩ => ⟨items.length - (i + 1), by omega, rfl, hlt, acc, vs, k, h⟩, fun x H2 hy => ?_⟩
      obtain ⟨r2, a2, e2⟩ := yd x H2 hy
      have xw : ((s.own D k).wipe (own.map (·.2))).X = D :: s.X := ((s.own D k).wipe_X _).1
      refine ⟨(s.own D k).wipe (own.map (·.2)), _, d, r2.wipe _, by rw [xw]; exact e2, turn i d acc k hd hI hlen, fun s3 h3 σ3 H3 r3 a3 x3 k3 l3 => ?_⟩
      have x3' : s3.X = D :: s.X := x3.trans xw
      have a3' : AdvE c (D :: s.X) H2 H3 := xw ▸ a3
      have we : wipe σ3 (own.map (·.2)) = wipe σ (own.map (·.2)) := by
        have q1 : wipe σ3 (own.map (·.2)) = wipe (wipe σ (own.map (·.2))) (own.map (·.2)) := wipe_ext l3 fun j hj => k3 j fun z => hj (hts j z)
        rw [q1]
        refine wipe_ext (wipe_length _ _) fun j hj => ?_
        have := @wipe_ext (own.map (·.2))
        -- outside the own slots nothing is wiped
        have aux : ∀ (vs : List Nat), (∀ v ∈ vs, v ∈ own.map (·.2)) → (wipe σ vs)[j]? = σ[j]? := by
          intro vs
          induction vs with
          | nil => intro _; rfl
          | cons v r ih =>
            intro hv
            show ((wipe σ r).set v none)[j]? = _
            rw [List.getElem?_set_ne (fun z => hj (show j ∈ own.map (·.2) by rw [← z]; exact hv v List.mem_cons_self)), ih fun w hw => hv w (List.mem_cons_of_mem _ hw)]
        exact aux _ fun _ h => h
      refine ⟨we, ?_⟩
      -- back to the frame's slots: what the block knows of σ3 is not asked any more
      have back : ∀ {k' : Nat} {H4 : Hp}, Rep c (s3.at k') σ3 H4 → AdvE c (D :: s.X) H3 H4 → Rep c (s.own D k') σ H4 := fun {k' H4} r4 a4 => by
        have st : Sub (c.hid (D :: s.X) H') (c.hid (D :: s.X) H4) := (a2.sub.trans a3'.sub).trans a4.sub
        exact rp'.step (k := k') st (fun a ha _ => ((a4.own a ha).trans (a3'.own a ha)).trans (a2.own a ha)) r4.m r4.tb
      refine ⟨s3, _, r3, h3, fun b k4 h4 H4 r4 a4 => ?_⟩
      have a4' : AdvE c (D :: s.X) H3 H4 := x3' ▸ a4
      have D4 : H4 D = some (.lst vs) := by rw [a4'.own D List.mem_cons_self, a3'.own D List.mem_cons_self, a2.own D List.mem_cons_self]; exact hD'
      have st4 : Sub (c.hid (D :: s.X) H') (c.hid (D :: s.X) H4) := (a2.sub.trans a3'.sub).trans a4'.sub
      have ow4 : ∀ a ∈ D :: s.X, H4 a = H' a := fun a ha => ((a4'.own a ha).trans (a3'.own a ha)).trans (a2.own a ha)
      cases b with
      | false =>
        have h4 : Inv (i + 1) acc k4 := h4
        exact iteF ⟨acc, vs, k4, h4, by omega, D4, back r4 a4', sb.trans st4, fun a ha => (ow4 a (List.mem_cons_of_mem _ ha)).trans (ow a ha), ra.mono st4⟩
      | true =>
        have h4 : te (s3.at k4) fun y k3 => Inv (i + 1) (acc ++ [y]) k3 := h4
        refine iteT ⟨s3.at k4, _, r4, h4, fun y k5 h5 v5 H5 r5 a5 e5 => ?_⟩
        have a5' : AdvE c (D :: s.X) H4 H5 := x3' ▸ a5
        have D5 : H5 D = some (.lst vs) := by rw [a5'.own D List.mem_cons_self]; exact D4
        have st5 : Sub (c.hid (D :: s.X) H') (c.hid (D :: s.X) H5) := st4.trans a5'.sub
        refine ⟨vs, D5, by rw [ra.len]; exact lim_lt (by omega), acc ++ [y], vs ++ [v5], k5, h5, by rw [List.length_append, List.length_singleton]; omega, upd_same, ?_, ?_, ?_, ?_⟩
        · have rr : Rep c (s.own D k5) σ H5 := back r5 ⟨a4'.sub.trans a5'.sub, fun a ha => (a5'.own a ha).trans (a4'.own a ha)⟩
          -- D's content is in no slot
          have no := fun i ds => rp.noslot n1 i ds
          refine ⟨rr.sub.trans (wo_mut (List.mem_append_right _ List.mem_cons_self)), fun a ha hm hn => ?_, rr.x0, rr.xm, fun a ha => ?_, rr.m.eq (fun a ha _ => upd_ne fun z => n2 (show D ∈ Ml c.M by rw [← z]; exact ha)) (.at_ D5), fun j x e => ?_, rr.apart, rr.len, rr.tb.trans (.at_ D5), fun a ha => by
            by_cases z : a = D
            · rw [z, upd_same]; exact fun _ e => by cases e
            · rw [upd_ne z]; exact rr.xt a ha⟩
          · rw [upd_ne fun z => n3 (show D ∈ c.X0 by rw [← z]; exact ha)]
            exact rr.old a ha hm hn
          · by_cases z : a = D
            · rw [z, upd_same]; simp
            · rw [upd_ne z]; exact rr.xs a ha
          · have q := rr.slot j x e
            have sm : Sub (c.hid (D :: s.X) H5) (c.hid (D :: s.X) (upd H5 D (.lst (vs ++ [v5])))) := wo_mut (List.mem_append_right _ List.mem_cons_self)
            cases x with
            | no => trivial
            | dat d =>
              obtain ⟨v, e, h⟩ := q
              exact ⟨v, e, h.mono sm⟩
            | own w ds =>
              obtain ⟨e', h1, h2, h3, ws, h4, h5⟩ := q
              have nw : w ≠ D := fun z => no j ds (z ▸ e)
              exact ⟨e', h1, h2, h3, ws, by rw [upd_ne nw]; exact h4, h5.mono sm⟩
            | mst => exact q
            | kds N Z => exact q
            | scr ns =>
              obtain ⟨v, e, h⟩ := q
              exact ⟨v, e, sm.sl h⟩
        · exact (sb.trans st5).trans (wo_mut (List.mem_append_right _ List.mem_cons_self))
        · intro a ha
          rw [upd_ne fun z => n1 (show D ∈ s.X by rw [← z]; exact ha), a5'.own a (List.mem_cons_of_mem _ ha), ow4 a (List.mem_cons_of_mem _ ha)]
          exact ow a ha
        · exact ((ra.mono st5).app (.cons (by rw [x3'] at e5; exact e5) .nil)).mono (wo_mut (List.mem_append_right _ List.mem_cons_self))
    · have e : i = items.length := by omega
      subst e
      exact .inl ⟨yl1 (Nat.le_refl _), f acc k (fin acc k hI hlen) D H' ⟨rp', a1.sub.trans sb, fun a ha => (ow a ha).trans (a1.own a ha), n1, n3, n4, vs, hD', ra⟩⟩
theorem pdf_lc {X : Cx} {c : C} {elt tg iter : Expr} {ifs : List Expr} {scope : Scope} {own : List (PySem.Str × Nat)} {pos : Pos} {wi : DI} {g : DG} {tt : DT} {te : DE} {ts : List Nat} (hc : X.calm = true) (hN : X.N.Nodup) (hi : PI X tg iter (LI c wi)) (ok : BlkOk X.N X.env.scope scope own)
    (hg : ∀ (s : Shared) (H : Hp) (C : Addr) (cl : List (PySem.Str × Addr)) (fp : List Addr), PG (X.blk s H scope (compEnvC scope cl C X.env) fp) tg (LG c ts g)) (ht : ∀ (s : Shared) (H : Hp) (C : Addr) (cl : List (PySem.Str × Addr)) (fp : List Addr), PTs (X.blk s H scope (compEnvC scope cl C X.env) fp) ifs (LT c tt))
    (he : ∀ (s : Shared) (H : Hp) (C : Addr) (cl : List (PySem.Str × Addr)) (fp : List Addr), PE (X.blk s H scope (compEnvC scope cl C X.env) fp) elt (LE c te)) (hts : ∀ j ∈ ts, j ∈ own.map (·.2) := by decide) (hs : ∀ x, foldedSetIterable iter X.env x = pure x := by intro _; rfl) :
    PE X (.ListComp elt [⟨tg, iter, ifs, 0⟩] scope pos) (LF c (dLc wi g tt te (own.map (·.2)))) :=
  (pe_lc hc hN hi ok hg ht he hs).weak fun σ H Q h => lc_imp hts σ H Q h
end DL
namespace DL
open PySem L2
open PySem.W (Frag)
structure DEnds where
  nx : S → Prop
  rt : D → Nat → Prop
  bk : S → Prop := fun _ => False
  ct : S → Prop := fun _ => False
abbrev DS := DEnds → S → Prop
def Adv' (c : C) (X : List Addr) (H : Hp) (X' : List Addr) (H' : Hp) : Prop := Sub (c.hid X H) (c.hid X' H')
structure Fin (c : C) (H' : Hp) (k : Nat) : Prop where
  sub : Sub (c.hid c.X0 c.H0) (c.hid c.X0 H')
  old : ∀ a ∈ c.X0, a ∉ Ml c.M → c.H0 a ≠ none → H' a = c.H0 a
  m : MAt c.M H' k
  tb : TbK c.H0 H'
structure Fits (c : C) (X : List Addr) (H : Hp) (DD : DEnds) (D : Ends) : Prop where
  nx : ∀ s' σ' H', Rep c s' σ' H' → Adv' c X H s'.X H' → DD.nx s' → D.nx σ' H'
  bk : ∀ s' σ' H', Rep c s' σ' H' → Adv' c X H s'.X H' → DD.bk s' → D.bk σ' H'
  ct : ∀ s' σ' H', Rep c s' σ' H' → Adv' c X H s'.X H' → DD.ct s' → D.ct σ' H'
  rt : ∀ d k v H', Fin c H' k → Rl c.K (c.hid c.X0 H') v d → DD.rt d k → D.rt v H'
def LS (c : C) (t : DS) : TS := fun D σ H => ∃ s DD, Rep c s σ H ∧ t DD s ∧ Fits c s.X H DD D
theorem Fits.on {c : C} {X X1 : List Addr} {H H1 : Hp} {DD : DEnds} {D : Ends} (f : Fits c X H DD D) (a : Adv' c X H X1 H1) : Fits c X1 H1 DD D :=
  ⟨fun s σ H' r b q => f.nx s σ H' r (a.trans b) q, fun s σ H' r b q => f.bk s σ H' r (a.trans b) q, fun s σ H' r b q => f.ct s σ H' r (a.trans b) q, f.rt⟩
theorem Rep.sub0 {c : C} {s : S} {σ : L2.St} {H : Hp} (r : Rep c s σ H) : Sub (c.hid s.X H) (c.hid c.X0 H) := wo_more fun a h => by
  rcases List.mem_append.mp h with h | h
  · exact List.mem_append_left _ h
  · exact List.mem_append_right _ (r.x0 a h)
theorem Rep.fin {c : C} {s : S} {σ : L2.St} {H : Hp} (r : Rep c s σ H) : Fin c H s.k := ⟨r.sub.trans r.sub0, r.old, r.m, r.tb⟩
abbrev dNext : DS := fun DD s => DD.nx s
abbrev dSeq (t u : DS) : DS := fun DD s => t { DD with nx := u DD } s
abbrev dSet (i : Nat) (t : DE) : DS := fun DD s => t s fun d k => DD.nx ((s.put i (.dat d)).at k)
abbrev dAsg (t : DE) (g : DG) : DS := fun DD s => t s fun d k => g d (s.at k) DD.nx
abbrev dSetO (i : Nat) (t : DA) : DS := fun DD s => t s fun ds k => ∀ p, p ∉ s.X → DD.nx ((s.own p k).put i (.own p ds))
@[reducible] def Sl.frz : Sl → Sl
  | .own _ ds => .dat (.lst ds)
  | x => x
abbrev dRet (t : DE) : DS := fun DD s => ∀ X, t ⟨X, s.sl.map Sl.frz, s.k⟩ fun d k => DD.rt d k
abbrev dIfS (c : DT) (t u : DS) : DS := fun DD s => c s fun b k => if b = true then t DD (s.at k) else u DD (s.at k)
abbrev dDrop (t : DE) : DS := fun DD s => t s fun _ k => DD.nx (s.at k)
abbrev dFor (it : DI) (g : DG) (body : DS) : DS := fun DD s => it s fun items k0 => ∃ Inv : Nat → S → Prop, Inv 0 (s.at k0) ∧
  (∀ i d s', items[i]? = some d → Inv i s' → g d s' fun s2 => body { DD with nx := Inv (i + 1), ct := Inv (i + 1), bk := DD.nx } s2) ∧ ∀ s', Inv items.length s' → DD.nx s'
abbrev dWhile (t : DT) (body : DS) : DS := fun DD s => ∃ Inv : Nat → S → Prop, (∃ m, Inv m s) ∧ ∀ m s', Inv m s' → t s' fun b k =>
  if b = true then body { DD with nx := fun s2 => ∃ m', m' < m ∧ Inv m' s2, ct := fun s2 => ∃ m', m' < m ∧ Inv m' s2, bk := DD.nx } (s'.at k) else DD.nx (s'.at k)
theorem Rep.frz {c : C} {s : S} {σ : L2.St} {H : Hp} (r : Rep c s σ H) : Rep c ⟨c.X0, s.sl.map Sl.frz, s.k⟩ σ H := by
  refine ⟨r.sub.trans r.sub0, r.old, fun a h => h, fun a h => r.xm a (r.x0 a h), fun a h => r.xs a (r.x0 a h), r.m, fun i x e => ?_, fun i j p q ds es e1 _ _ => ?_, by show (s.sl.map Sl.frz).length = _; rw [List.length_map]; exact r.len, r.tb, fun a h => r.xt a (r.x0 a h)⟩
  · have e : (s.sl.map Sl.frz)[i]? = some x := e
    rw [List.getElem?_map] at e
    cases h : s.sl[i]? with
    | none => rw [h] at e; cases e
    | some y =>
      rw [h] at e
      obtain rfl : Sl.frz y = x := Option.some.inj e
      have q := r.slot i y h
      cases y with
      | no => trivial
      | dat d =>
        obtain ⟨v, e, h⟩ := q
        exact ⟨v, e, h.mono r.sub0⟩
      | own p ds =>
        obtain ⟨e', h1, h2, h3, vs, h4, h5⟩ := q
        refine ⟨_, e', .lst (wo_of (fun z => ?_) h4) (h5.mono r.sub0)⟩
        rcases List.mem_append.mp z with z | z
        · exact r.xm p h1 z
        · exact h2 z
      | mst => exact q
      | kds N Z => exact q
      | scr ns =>
        obtain ⟨v, e, h⟩ := q
        exact ⟨v, e, r.sub0.sl h⟩
  · have e1 : (s.sl.map Sl.frz)[i]? = some (.own p ds) := e1
    rw [List.getElem?_map] at e1
    cases h : s.sl[i]? with
    | none => rw [h] at e1; cases e1
    | some y => rw [h] at e1; cases y <;> cases e1
section
variable {X : Cx} {c : C} {pos : Pos}
theorem psd_nil : PSs X [] (LS c dNext) := pss_nil.weak fun D σ H ⟨s, DD, rp, q, f⟩ => f.nx s σ H rp (Sub.refl _) q
theorem psd_cons {st : Stmt} {r : List Stmt} {t u : DS} (h1 : PS X st (LS c t)) (h2 : PSs X r (LS c u)) : PSs X (st :: r) (LS c (dSeq t u)) :=
  (pss_cons h1 h2).weak fun D σ H ⟨s, DD, rp, q, f⟩ => ⟨s, { DD with nx := u DD }, rp, q, ⟨fun s' σ' H' r' a q' => ⟨s', DD, r', q', f.on a⟩, f.bk, f.ct, f.rt⟩⟩
theorem psd_one {st : Stmt} {t : DS} (h1 : PS X st (LS c t)) : PSs X [st] (LS c t) := pss_one h1
theorem psd_break : PS X (.Break pos) (LS c (fun DD s => DD.bk s)) := ps_break.weak fun D σ H ⟨s, DD, rp, q, f⟩ => f.bk s σ H rp (Sub.refl _) q
theorem psd_never {st : Stmt} : PS X st (LS c (fun _ _ => False)) := ⟨fun _ _ _ _ _ _ ⟨_, _, _, q, _⟩ => q.elim⟩
theorem psd_set (i : Nat) {x : PySem.Str} {e : Expr} {t : DE} {pos' : Pos} (hN : X.N.Nodup) (he : PE X e (LE c t)) (hi : X.N[i]? = some x := by rfl) (hx : Loc X.env.scope x := by first | exact Or.inl rfl | exact Or.inr rfl) (hs : swapsWith e (some (.Name x pos')) pos.line X.env = pure false := by rfl) (hf : X.fn x = true ∨ X.env.scope.names.lookup x = some .local := by first | exact .inl rfl | exact .inr rfl) :
    PS X (.Assign [.Name x pos'] e pos) (LS c (dSet i t)) :=
  (ps_set hN hi hx he hs hf).weak fun D σ H ⟨s, DD, rp, q, f⟩ => ⟨s, _, rp, q, fun d k h v H1 r1 a1 e1 => f.nx _ _ H1 (r1.putD e1) a1.sub h⟩
theorem psd_asg {tg e : Expr} {t : DE} {g : DG} {ts : List Nat} (he : PE X e (LE c t)) (hg : PG X tg (LG c ts g)) (hs : swapsWithSole [tg] e pos.line X.env = pure false := by rfl) (hw : swappedStores [tg] e X.env = pure none := by rfl)
    (h1 : (assignEach [tg] X.env).map (·.2) = [assign tg X.env] := by rfl) : PS X (.Assign [tg] e pos) (LS c (dAsg t g)) :=
  (ps_asg he hg hs hw h1).weak fun D σ H ⟨s, DD, rp, q, f⟩ => ⟨s, _, rp, q, fun d k h v H1 r1 a1 e1 => ⟨s.at k, _, d, r1, e1, h, fun s2 q2 σ2 H2 r2 a2 x2 _ _ => f.nx s2 σ2 H2 r2 (a1.sub.trans (x2 ▸ a2.sub)) q2⟩⟩
theorem NewL.put {s : S} {σ : L2.St} {H : Hp} {p : Addr} {k : Nat} {ds : List D} {H' : Hp} (n : NewL c s σ H p k ds H') (rp : Rep c s σ H) (i : Nat) : Rep c ((s.own p k).put i (.own p ds)) (σ.set i (some (.ref p))) H' :=
  n.rep.put ⟨rfl, List.mem_cons_self, n.out0, n.new, n.vals⟩ fun q es e j q' es' e' _ => by
    cases e
    exact fun z => rp.noslot n.out j es' (z ▸ e')
theorem psd_setO (i : Nat) {x : PySem.Str} {e : Expr} {t : DA} {pos' : Pos} (how : c.ow.contains i = true) (hN : X.N.Nodup) (he : PE X e (LF c t)) (hi : X.N[i]? = some x := by rfl) (hx : Loc X.env.scope x := by first | exact Or.inl rfl | exact Or.inr rfl) (hs : swapsWith e (some (.Name x pos')) pos.line X.env = pure false := by rfl) (hf : X.fn x = true ∨ X.env.scope.names.lookup x = some .local := by first | exact .inl rfl | exact .inr rfl) :
    PS X (.Assign [.Name x pos'] e pos) (LS c (dSetO i t)) :=
  (ps_set hN hi hx he hs hf).weak fun D σ H ⟨s, DD, rp, q, f⟩ => ⟨s, _, rp, q, fun ds k h p H1 n => f.nx _ _ H1 (n.put rp i) n.sub (h p n.out)⟩
theorem psd_setLc (i : Nat) {y : PySem.Str} {py : Pos} {elt tg iter : Expr} {ifs : List Expr} {scope : Scope} {own : List (PySem.Str × Nat)} {wi : DI} {g : DG} {tt : DT} {te : DE} {ts : List Nat} {lpos spos : Pos} (hc : X.calm = true) (hN : X.N.Nodup) (hi : PI X tg iter (LI c wi)) (ok : BlkOk X.N X.env.scope scope own)
    (hg : ∀ (s : Shared) (H : Hp) (C : Addr) (cl : List (PySem.Str × Addr)) (fp : List Addr), PG (X.blk s H scope (compEnvC scope cl C X.env) fp) tg (LG c ts g)) (ht : ∀ (s : Shared) (H : Hp) (C : Addr) (cl : List (PySem.Str × Addr)) (fp : List Addr), PTs (X.blk s H scope (compEnvC scope cl C X.env) fp) ifs (LT c tt))
    (he : ∀ (s : Shared) (H : Hp) (C : Addr) (cl : List (PySem.Str × Addr)) (fp : List Addr), PE (X.blk s H scope (compEnvC scope cl C X.env) fp) elt (LE c te)) (hy : X.N[i]? = some y := by rfl) (hyl : X.env.scope.names.lookup y = some .local := by rfl)
    (hsw : swapsWith (.ListComp elt [⟨tg, iter, ifs, 0⟩] scope lpos) (some (.Name y py)) spos.line X.env = pure true := by exact sw_true rfl rfl rfl (by decide +kernel)) (hts : ∀ j ∈ ts, j ∈ own.map (·.2) := by decide) (hs : ∀ x, foldedSetIterable iter X.env x = pure x := by intro _; rfl) :
    PS X (.Assign [.Name y py] (.ListComp elt [⟨tg, iter, ifs, 0⟩] scope lpos) spos) (LS c (dSet i (dFr (dLc wi g tt te (own.map (·.2)))))) :=
  (ps_setLc hc hN hy hyl hsw hi ok hg ht he hs).weak fun D σ H ⟨s, DD, rp, q, f⟩ => lc_imp hts σ H _ (LF.data ⟨s, _, rp, q, fun d k h v H1 r1 a1 e1 => f.nx _ _ H1 (r1.putD e1) a1.sub h⟩)
theorem psd_setLcO (i : Nat) {y : PySem.Str} {py : Pos} {elt tg iter : Expr} {ifs : List Expr} {scope : Scope} {own : List (PySem.Str × Nat)} {wi : DI} {g : DG} {tt : DT} {te : DE} {ts : List Nat} {lpos spos : Pos} (hc : X.calm = true) (hN : X.N.Nodup) (hi : PI X tg iter (LI c wi)) (ok : BlkOk X.N X.env.scope scope own)
    (hg : ∀ (s : Shared) (H : Hp) (C : Addr) (cl : List (PySem.Str × Addr)) (fp : List Addr), PG (X.blk s H scope (compEnvC scope cl C X.env) fp) tg (LG c ts g)) (ht : ∀ (s : Shared) (H : Hp) (C : Addr) (cl : List (PySem.Str × Addr)) (fp : List Addr), PTs (X.blk s H scope (compEnvC scope cl C X.env) fp) ifs (LT c tt))
    (he : ∀ (s : Shared) (H : Hp) (C : Addr) (cl : List (PySem.Str × Addr)) (fp : List Addr), PE (X.blk s H scope (compEnvC scope cl C X.env) fp) elt (LE c te)) (hy : X.N[i]? = some y := by rfl) (hyl : X.env.scope.names.lookup y = some .local := by rfl)
    (hsw : swapsWith (.ListComp elt [⟨tg, iter, ifs, 0⟩] scope lpos) (some (.Name y py)) spos.line X.env = pure true := by exact sw_true rfl rfl rfl (by decide +kernel)) (hts : ∀ j ∈ ts, j ∈ own.map (·.2) := by decide) (hs : ∀ x, foldedSetIterable iter X.env x = pure x := by intro _; rfl) :
    PS X (.Assign [.Name y py] (.ListComp elt [⟨tg, iter, ifs, 0⟩] scope lpos) spos) (LS c (dSetO i (dLc wi g tt te (own.map (·.2))))) :=
  (ps_setLc hc hN hy hyl hsw hi ok hg ht he hs).weak fun D σ H ⟨s, DD, rp, q, f⟩ => lc_imp hts σ H _ ⟨s, _, rp, q, fun ds k h p H1 n => f.nx _ _ H1 (n.put rp i) n.sub (h p n.out)⟩
theorem psd_ret {e : Expr} {t : DE} (he : PE X e (LE c t)) : PS X (.Return (some e) pos) (LS c (dRet t)) :=
  (ps_ret he).weak fun D σ H ⟨s, DD, rp, q, f⟩ => ⟨_, _, rp.frz, q c.X0, fun d k h v H1 r1 a1 e1 => f.rt d k v H1 r1.fin e1 h⟩
theorem psd_if {t : Expr} {a b : List Stmt} {tt : DT} {ta tb : DS} (ht : PT X t (LT c tt)) (ha : PSs X a (LS c ta)) (hb : PSs X b (LS c tb)) : PS X (.If t a b pos) (LS c (dIfS tt ta tb)) :=
  (ps_if ht ha hb).weak fun D σ H ⟨s, DD, rp, q, f⟩ => ⟨s, _, rp, q, fun x k h H1 r1 a1 => by
    cases x with
    | true => exact ⟨s.at k, DD, r1, h, f.on a1.sub⟩
    | false => exact ⟨s.at k, DD, r1, h, f.on a1.sub⟩⟩
theorem psd_expr {e : Expr} {t : DE} (he : PE X e (LE c t)) (hs : swapsWith e none pos.line X.env = pure false := by rfl) : PS X (.Expr e pos) (LS c (dDrop t)) :=
  (ps_expr he hs).weak fun D σ H ⟨s, DD, rp, q, f⟩ => ⟨s, _, rp, q, fun d k h v H1 r1 a1 e1 => f.nx _ σ H1 r1 a1.sub h⟩
theorem psd_for {tg iter : Expr} {body : List Stmt} {it : DI} {g : DG} {tb : DS} {ts : List Nat} (hp : PassesOwn (model X.prog X.w) X.A X.env X.xe) (hc : X.calm = true) (hi : PI X tg iter (LI c it)) (hg : PG X tg (LG c ts g)) (hb : PSs X body (LS c tb))
    (hs : ∀ x, foldedSetIterable iter X.env x = pure x := by intro _; rfl) : PS X (.For tg iter body [] pos) (LS c (dFor it g tb)) :=
  (ps_for hp hc hi hg hb hs).weak fun D σ H ⟨s, DD, rp, q, f⟩ => by
    refine ⟨s, _, rp, q, fun items k0 ⟨IV, i0, turn, fin⟩ J H1 r1 a1 yl => ?_⟩
    refine ⟨fun i m σ' H' => m = items.length - i ∧ i ≤ items.length ∧ ∃ s', IV i s' ∧ Rep c s' σ' H' ∧ Adv' c s.X H1 s'.X H', ⟨items.length, by simp, Nat.zero_le _, s.at k0, i0, r1, Sub.refl _⟩, ?_⟩
    rintro i m σ' H' ⟨rfl, hi', s', hI, rp', ad⟩
    obtain ⟨yl1, yl2⟩ := yl i s' σ' H' rp' ad
    by_cases hlt : i < items.length
    · obtain ⟨d, hd⟩ : ∃ d, items[i]? = some d := ⟨items[i], by simp [hlt]⟩
      obtain ⟨go, yd⟩ := yl2 d hd
      refine .inr ⟨go, fun σ2 H2 => ∃ s', IV (i + 1) s' ∧ Rep c s' σ2 H2 ∧ Adv' c s.X H1 s'.X H2, fun σ2 H2 ⟨s2, h⟩ => ⟨items.length - (i + 1), by omega, rfl, hlt, s2, h⟩, fun x H2 hy => ?_⟩
      obtain ⟨r2, a2, e2⟩ := yd x H2 hy
      refine ⟨s', _, d, r2, e2, turn i d s' hd hI, fun s3 h3 σ3 H3 r3 a3 x3 _ _ => ?_⟩
      have ad3 : Adv' c s.X H1 s3.X H3 := (ad.trans a2.sub).trans (x3 ▸ a3.sub)
      exact ⟨s3, _, r3, h3, ⟨fun s4 σ4 H4 r4 a4 h4 => ⟨s4, h4, r4, ad3.trans a4⟩, fun s4 σ4 H4 r4 a4 h4 => f.nx s4 σ4 H4 r4 (a1.sub.trans (ad3.trans a4)) h4, fun s4 σ4 H4 r4 a4 h4 => ⟨s4, h4, r4, ad3.trans a4⟩, f.rt⟩⟩
    · have e : i = items.length := by omega
      subst e
      exact .inl ⟨yl1 (Nat.le_refl _), f.nx s' σ' H' rp' (a1.sub.trans ad) (fin s' hI)⟩
theorem psd_while {t : Expr} {body : List Stmt} {tt : DT} {tb : DS} (hp : PassesOwn (model X.prog X.w) X.A X.env X.xe) (ht : PT X t (LT c tt)) (hb : PSs X body (LS c tb)) : PS X (.While t body [] pos) (LS c (dWhile tt tb)) :=
  (ps_while hp ht hb).weak fun D σ H ⟨s, DD, rp, ⟨IV, ⟨m0, i0⟩, turn⟩, f⟩ => by
    refine ⟨fun m σ' H' => ∃ s', IV m s' ∧ Rep c s' σ' H' ∧ Adv' c s.X H s'.X H', ⟨m0, s, i0, rp, Sub.refl _⟩, ?_⟩
    rintro m σ' H' ⟨s', hI, rp', ad⟩
    refine ⟨s', _, rp', turn m s' hI, fun b k h H1 r1 a1 => ?_⟩
    have ad1 : Adv' c s.X H s'.X H1 := ad.trans a1.sub
    cases b with
    | true =>
      refine iteT ⟨fun σ2 H2 => ∃ m', m' < m ∧ ∃ s2, IV m' s2 ∧ Rep c s2 σ2 H2 ∧ Adv' c s.X H s2.X H2, fun σ2 H2 h => h, s'.at k, _, r1, h, ?_⟩
      exact ⟨fun s4 σ4 H4 r4 a4 ⟨m', hm, h4⟩ => ⟨m', hm, s4, h4, r4, ad1.trans a4⟩, fun s4 σ4 H4 r4 a4 h4 => f.nx s4 σ4 H4 r4 (ad1.trans a4) h4, fun s4 σ4 H4 r4 a4 ⟨m', hm, h4⟩ => ⟨m', hm, s4, h4, r4, ad1.trans a4⟩, f.rt⟩
    | false => exact iteF (f.nx (s'.at k) σ' H1 r1 ad1 h)
end
end DL
namespace DL
open PySem L2
open PySem.W (Frag)
@[reducible] def S.seq (s : S) (i : Nat) : Option (List D) := match s.sl[i]? with
  | some (.own _ ds) => some ds
  | some (.dat d) => d.items
  | _ => none
theorem Rep.seq {c : C} {s : S} {σ : L2.St} {H : Hp} {i : Nat} {ds : List D} (r : Rep c s σ H) (h : s.seq i = some ds) : ∃ a vs, σ[i]? = some (some (.ref a)) ∧ (SqL c.K H a vs ∨ SqT c.K H a vs) ∧ RlA c.K (c.hid s.X H) vs ds := by
  unfold S.seq at h
  cases e : s.sl[i]? with
  | none => rw [e] at h; cases h
  | some x =>
    rw [e] at h
    have q := r.slot i x e
    cases x with
    | no => cases h
    | mst => cases h
    | kds N Z => cases h
    | scr ns => cases h
    | dat d =>
      obtain ⟨v, e1, h1⟩ := q
      obtain ⟨a, vs, rfl, h2, h3⟩ := h1.items h
      exact ⟨a, vs, e1, sq_all (wo_sub _ _) h2, h3⟩
    | own p es =>
      cases h
      obtain ⟨e1, _, _, _, vs, h4, h5⟩ := q
      exact ⟨p, vs, e1, .inl (SqL.of h4), h5⟩
abbrev dLenN (i : Nat) : DE := fun s Q => ∃ ds, s.seq i = some ds ∧ Q (.int ds.length) s.k
abbrev dIxN (i : Nat) (t : DE) : DE := fun s Q => ∃ ds, s.seq i = some ds ∧ t s fun d k => ∃ j e, d = .int j ∧ atI ds j = some e ∧ Q e k
abbrev dTupN (i : Nat) : DE := fun s Q => ∃ ds, s.seq i = some ds ∧ Q (.tup ds) s.k
theorem S.seq_kind {c : C} {s : S} {σ : L2.St} {H : Hp} {i : Nat} {ds : List D} (r : Rep c s σ H) (h : s.seq i = some ds) : (∃ a vs, σ[i]? = some (some (.ref a)) ∧ H a = some (.lst vs) ∧ RlA c.K (c.hid s.X H) vs ds) ∨ ∃ v, σ[i]? = some (some v) ∧ Rl c.K (c.hid s.X H) v (.tup ds) := by
  unfold S.seq at h
  cases e : s.sl[i]? with
  | none => rw [e] at h; cases h
  | some x =>
    rw [e] at h
    have q := r.slot i x e
    cases x with
    | no => cases h
    | mst => cases h
    | kds N Z => cases h
    | scr ns => cases h
    | dat d =>
      obtain ⟨v, e1, h1⟩ := q
      cases d <;> first | cases h | skip
      · obtain ⟨a, vs, rfl, h2, h3⟩ := h1.lstE
        exact .inl ⟨a, vs, e1, wo_sub _ _ _ _ h2, h3⟩
      · exact .inr ⟨v, e1, h1⟩
    | own p es =>
      cases h
      obtain ⟨e1, _, _, _, vs, h4, h5⟩ := q
      exact .inl ⟨p, vs, e1, h4, h5⟩
abbrev dLstN (i : Nat) : DA := fun s Q => ∃ ds, s.seq i = some ds ∧ Q ds s.k
section
variable {X : Cx} {c : C} {pos p : Pos}
theorem pd_lenN (hK : c.K = X.K) (hm : X.mg "len" = none) (i : Nat) {x : PySem.Str} {pn : Pos} (hN : X.N[i]? = some x := by rfl) (hv : Vis X.env.scope x := by first | exact Or.inl rfl | exact Or.inr (Or.inl rfl) | exact Or.inr (Or.inr rfl)) (hd : (x == ("__debug__" : PySem.Str)) = false := by decide) (hcd : (x == ("__classdict__" : PySem.Str)) = false := by decide)
    (hg : Gl X "len" := by rfl) (hs : starEach [Expr.Name x pn] X.env = (false, eval (Expr.Name x pn) X.env) :: starEach [] X.env := by rfl) (hp : (backTo pos (starEach [] X.env)).any (·.1) = false := by rfl) :
    PE X (.Call (.Name "len" p) [.Name x pn] [] pos) (LE c (dLenN i)) :=
  (pe_callB call_len_seq hg hm PySem.boot_len (pa_cons (pe_var hN hv hd hcd) pa_nil hs) (he := hs) (hpl := hp)).weak fun σ H Q ⟨s, R, rp, ⟨ds, h1, h2⟩, f⟩ => by
    obtain ⟨a, vs, e, h, r⟩ := rp.seq h1
    exact ⟨_, e, a, vs, rfl, hK ▸ h, by rw [r.len]; exact f _ _ h2 _ H rp AdvE.refl (.int _)⟩
theorem pd_ixN (hK : c.K = X.K) (i : Nat) {x : PySem.Str} {pn : Pos} {b : Expr} {t : DE} (hb : PE X b (LE c t)) (hN : X.N[i]? = some x := by rfl) (hv : Vis X.env.scope x := by first | exact Or.inl rfl | exact Or.inr (Or.inl rfl) | exact Or.inr (Or.inr rfl)) (hd : (x == ("__debug__" : PySem.Str)) = false := by decide) (hcd : (x == ("__classdict__" : PySem.Str)) = false := by decide) (hs : PlainIx b := by exact fun _ _ => rfl) :
    PE X (.Subscript (.Name x pn) b pos) (LE c (dIxN i t)) :=
  (pe_ix ix_seq (pe_var hN hv hd hcd) hb hs).weak fun σ H Q ⟨s, R, rp, ⟨ds, h2, q⟩, f⟩ => by
    obtain ⟨a0, _, e1, _⟩ := rp.seq h2
    refine ⟨_, e1, s, _, rp, q, fun d' k ⟨j, e', h3, h4, h5⟩ w H1 r1 a1 e2 => ?_⟩
    obtain ⟨a, vs, e3, h6, r6⟩ := Rep.seq (s := s.at k) r1 h2
    rw [e1] at e3
    cases e3
    subst h3
    cases e2.intE
    obtain ⟨u, h7, h8⟩ := at_rl r6 h4
    rcases h6 with h6 | h6
    · exact .inl ⟨_, vs, j, u, rfl, rfl, hK ▸ h6, h7, f _ k h5 _ H1 r1 a1 h8⟩
    · exact .inr (.inl ⟨_, vs, j, u, rfl, rfl, hK ▸ h6, h7, f _ k h5 _ H1 r1 a1 h8⟩)
theorem pd_tupN (hK : c.K = X.K) (hm : X.mg "tuple" = none) (i : Nat) {x : PySem.Str} {pn : Pos} (hN : X.N[i]? = some x := by rfl) (hv : Vis X.env.scope x := by first | exact Or.inl rfl | exact Or.inr (Or.inl rfl) | exact Or.inr (Or.inr rfl)) (hd : (x == ("__debug__" : PySem.Str)) = false := by decide) (hcd : (x == ("__classdict__" : PySem.Str)) = false := by decide)
    (hg : Gl X "tuple" := by rfl) (hs : starEach [Expr.Name x pn] X.env = (false, eval (Expr.Name x pn) X.env) :: starEach [] X.env := by rfl) :
    PE X (.Call (.Name "tuple" p) [.Name x pn] [] pos) (LE c (dTupN i)) :=
  (pe_tupleOf hg hm (pe_var hN hv hd hcd) hs).weak fun σ H Q ⟨s, R, rp, ⟨ds, h1, h2⟩, f⟩ => by
    rcases S.seq_kind rp h1 with ⟨a, vs, e, h, r⟩ | ⟨v, e, h⟩
    · refine ⟨_, e, .inl ⟨a, vs, rfl, SqL.of h, fun q hq => ?_⟩⟩
      have n := rp.new (o := .tup vs) hq
      exact f _ _ h2 _ _ n.1 n.2 (.tup (SqT.of (rp.at_new hq)) (r.mono n.2.sub))
    · obtain ⟨a, vs, rfl, h3, r⟩ := h.tupE
      exact ⟨_, e, .inr ⟨a, vs, rfl, hK ▸ (wo_sub _ _).st h3, f _ _ h2 _ H rp AdvE.refl h⟩⟩
theorem pdf_lstN (hK : c.K = X.K) (hm : X.mg "list" = none) (i : Nat) {x : PySem.Str} {pn : Pos} (hN : X.N[i]? = some x := by rfl) (hv : Vis X.env.scope x := by first | exact Or.inl rfl | exact Or.inr (Or.inl rfl) | exact Or.inr (Or.inr rfl)) (hd : (x == ("__debug__" : PySem.Str)) = false := by decide) (hcd : (x == ("__classdict__" : PySem.Str)) = false := by decide)
    (hg : Gl X "list" := by rfl) (hs : starEach [Expr.Name x pn] X.env = (false, eval (Expr.Name x pn) X.env) :: starEach [] X.env := by rfl) (hp : (backTo pos (starEach [] X.env)).any (·.1) = false := by rfl) :
    PE X (.Call (.Name "list" p) [.Name x pn] [] pos) (LF c (dLstN i)) :=
  (pe_callTy call_list_of hg hm PyProof.Rows.boot_list (pa_cons (pe_var hN hv hd hcd) pa_nil hs) (he := hs) (hpl := hp)).weak fun σ H Q ⟨s, R, rp, ⟨ds, h1, h2⟩, f⟩ => by
    obtain ⟨a, vs, e, h, r⟩ := rp.seq h1
    exact ⟨_, e, a, vs, rfl, hK ▸ h, fun q hq => f ds _ h2 q _ (NewL.mk' rp AdvE.refl r hq)⟩
end
end DL
namespace DL
open PySem L2
open PySem.W (Frag)
abbrev dLen (t : DE) : DE := fun s Q => t s fun d k => ∃ ds, d.items = some ds ∧ Q (.int ds.length) k
abbrev dTupOf (t : DE) : DE := fun s Q => t s fun d k => ∃ ds, d.items = some ds ∧ Q (.tup ds) k
abbrev dLstOf (t : DE) : DA := fun s Q => t s fun d k => ∃ ds, d.items = some ds ∧ Q ds k
abbrev dInt (t : DE) : DE := fun s Q => t s fun d k => ∃ i, d = .int i ∧ Q (.int i) k
abbrev dLr2 (t u : DE) : DA := fun s Q => t s fun d k => u (s.at k) fun e k' => ∃ i j, d = .int i ∧ e = .int j ∧ (-1000 ≤ i ∧ i ≤ 1000 ∧ -1000 ≤ j ∧ j ≤ 1000) ∧ Q (rngD i (j - i).toNat) k'
def rep1 : D → Option PySem.Str
  | .non => some "None"
  | .bl b => some (if b then "True" else "False")
  | .int i => some (toString i)
  | _ => none
abbrev dRepr (t : DE) : DE := fun s Q => t s fun d k => ∃ x, rep1 d = some x ∧ (∀ i, d = .int i → i.natAbs.log2 < 1920) ∧ Q (.str x) k
theorem rng_rl {K : Frag} {A : Hp} (a b : Int) : RlA K A (rgV a b) (rngD a (b - a).toNat) := by
  unfold rgV rngD
  generalize (List.range (b - a).toNat) = l
  induction l with
  | nil => exact .nil
  | cons i r ih => exact .cons (.int _) ih
section
variable {X : Cx} {c : C} {pos p : Pos}
theorem call_repr1 : CallR X (.builtin "repr") (fun xs H Q => ∃ v, xs = [v] ∧ ((∃ b, v = .bl b ∧ Q (.str (if b then "True" else "False")) H) ∨ (v = .non ∧ Q (.str "None") H) ∨ ∃ i, v = .int i ∧ i.natAbs.log2 < 1920 ∧ Q (.str (toString i)) H)) := by
  intro pins s σ H xs us Q I r h
  obtain ⟨v, rfl, h⟩ := h
  obtain ⟨u, rfl, ru⟩ := vals1 r
  rcases h with ⟨b, rfl, q⟩ | ⟨rfl, q⟩ | ⟨i, rfl, hz, q⟩
  · cases (show u = Value.bool b from ru)
    exact PySem.P.repr_of_bool ⟨.str _, H, I.tok _, ⟨_, rfl⟩, q⟩
  · cases (show u = Value.none from ru)
    exact PySem.P.repr_of_none ⟨.str _, H, I.tok _, ⟨_, rfl⟩, q⟩
  · obtain ⟨t, rfl⟩ := ru
    exact PySem.P.repr_of_int hz ⟨.str _, H, I.tok _, ⟨_, rfl⟩, q⟩
theorem pd_len (hK : c.K = X.K) (hm : X.mg "len" = none) {e : Expr} {t : DE} (h : PE X e (LE c t)) (hg : Gl X "len" := by rfl) (hs : starEach [e] X.env = (false, eval e X.env) :: starEach [] X.env := by rfl) (hp : (backTo pos (starEach [] X.env)).any (·.1) = false := by rfl) :
    PE X (.Call (.Name "len" p) [e] [] pos) (LE c (dLen t)) :=
  (pe_callB call_len_seq hg hm PySem.boot_len (pa_cons h pa_nil hs) (he := hs) (hpl := hp)).weak fun σ H Q ⟨s, R, rp, q, f⟩ => ⟨s, _, rp, q, fun d k ⟨ds, h1, h2⟩ v H1 r1 a1 e1 => by
    obtain ⟨a, vs, rfl, h, r⟩ := e1.items h1
    exact ⟨a, vs, rfl, hK ▸ sq_all (wo_sub _ _) h, by rw [r.len]; exact f _ k h2 _ H1 r1 a1 (.int _)⟩⟩
theorem pd_tupOf (hK : c.K = X.K) (hm : X.mg "tuple" = none) {e : Expr} {t : DE} (h : PE X e (LE c t)) (hg : Gl X "tuple" := by rfl) (hs : starEach [e] X.env = (false, eval e X.env) :: starEach [] X.env := by rfl) :
    PE X (.Call (.Name "tuple" p) [e] [] pos) (LE c (dTupOf t)) :=
  (pe_tupleOf hg hm h hs).weak fun σ H Q ⟨s, R, rp, q, f⟩ => ⟨s, _, rp, q, fun d k ⟨ds, h1, h2⟩ v H1 r1 a1 e1 => by
    cases d <;> first | cases h1 | skip
    · obtain ⟨a, vs, rfl, h, r⟩ := e1.lstE
      refine .inl ⟨a, vs, rfl, SqL.of (wo_sub _ _ _ _ h), fun q hq => ?_⟩
      have n := r1.new (o := .tup vs) hq
      exact f _ _ h2 _ _ n.1 (a1.trans n.2) (.tup (SqT.of (r1.at_new hq)) (r.mono n.2.sub))
    · obtain ⟨a, vs, rfl, h, r⟩ := e1.tupE
      exact .inr ⟨a, vs, rfl, hK ▸ (wo_sub _ _).st h, f _ _ h2 _ H1 r1 a1 e1⟩⟩
theorem pdf_lstOf (hK : c.K = X.K) (hm : X.mg "list" = none) {e : Expr} {t : DE} (h : PE X e (LE c t)) (hg : Gl X "list" := by rfl) (hs : starEach [e] X.env = (false, eval e X.env) :: starEach [] X.env := by rfl) (hp : (backTo pos (starEach [] X.env)).any (·.1) = false := by rfl) :
    PE X (.Call (.Name "list" p) [e] [] pos) (LF c (dLstOf t)) :=
  (pe_callTy call_list_of hg hm PyProof.Rows.boot_list (pa_cons h pa_nil hs) (he := hs) (hpl := hp)).weak fun σ H Q ⟨s, R, rp, q, f⟩ => ⟨s, _, rp, q, fun d k ⟨ds, h1, h2⟩ v H1 r1 a1 e1 => by
    obtain ⟨a, vs, rfl, h, r⟩ := e1.items h1
    exact ⟨a, vs, rfl, hK ▸ sq_all (wo_sub _ _) h, fun q hq => f ds _ h2 q _ (NewL.mk' r1 a1 r hq)⟩⟩
theorem pd_int1 (hm : X.mg "int" = none) {e : Expr} {t : DE} (h : PE X e (LE c t)) (hg : Gl X "int" := by rfl) (hs : starEach [e] X.env = (false, eval e X.env) :: starEach [] X.env := by rfl) (hp : (backTo pos (starEach [] X.env)).any (·.1) = false := by rfl) :
    PE X (.Call (.Name "int" p) [e] [] pos) (LE c (dInt t)) :=
  (pe_callTy call_int1 hg hm PyProof.Rows.boot_int (pa_cons h pa_nil hs) (he := hs) (hpl := hp)).weak fun σ H Q ⟨s, R, rp, q, f⟩ => ⟨s, _, rp, q, fun d k ⟨i, h1, h2⟩ v H1 r1 a1 e1 => by
    subst h1
    exact .inl ⟨i, by rw [e1.intE], f _ k h2 _ H1 r1 a1 (.int _)⟩⟩
theorem pd_repr (hm : X.mg "repr" = none) {e : Expr} {t : DE} (h : PE X e (LE c t)) (hg : Gl X "repr" := by rfl) (hs : starEach [e] X.env = (false, eval e X.env) :: starEach [] X.env := by rfl) (hp : (backTo pos (starEach [] X.env)).any (·.1) = false := by rfl) :
    PE X (.Call (.Name "repr" p) [e] [] pos) (LE c (dRepr t)) :=
  (pe_callB call_repr1 hg hm PyProof.Rows.boot_repr (pa_cons h pa_nil hs) (he := hs) (hpl := hp)).weak fun σ H Q ⟨s, R, rp, q, f⟩ => ⟨s, _, rp, q, fun d k ⟨x, h1, h3, h2⟩ v H1 r1 a1 e1 => by
    refine ⟨v, rfl, ?_⟩
    cases d <;> first | cases h1 | skip
    · exact .inr (.inl ⟨e1.nonE, f _ k h2 _ H1 r1 a1 (.str _)⟩)
    · exact .inl ⟨_, e1.blE, f _ k h2 _ H1 r1 a1 (.str _)⟩
    · exact .inr (.inr ⟨_, e1.intE, h3 _ rfl, f _ k h2 _ H1 r1 a1 (.str _)⟩)⟩
theorem pdf_lr2 (hc : X.calm = true) (hm : X.mg "list" = none) (hr : X.mg "range" = none) {e e' : Expr} {t u : DE} {p2 pos2 : Pos} (h : PE X e (LE c t)) (h' : PE X e' (LE c u)) (hg : Gl X "list" := by rfl) (hg2 : Gl X "range" := by rfl) (hs : starEach [e, e'] X.env = (false, eval e X.env) :: starEach [e'] X.env := by rfl) (hs2 : starEach [e'] X.env = (false, eval e' X.env) :: starEach [] X.env := by rfl)
    (hp : (backTo pos2 (starEach [e'] X.env)).any (·.1) = false := by rfl) (na : starEach [Expr.Call (.Name "range" p2) [e, e'] [] pos2] X.env = (false, eval (Expr.Call (.Name "range" p2) [e, e'] [] pos2) X.env) :: starEach [] X.env := by rfl) : PE X (.Call (.Name "list" p) [.Call (.Name "range" p2) [e, e'] [] pos2] [] pos) (LF c (dLr2 t u)) :=
  (pe_listRg hc hg hm (prg_2 hg2 hr h h' hs hs2 hp) na).weak fun σ H Q ⟨s, R, rp, q, f⟩ => ⟨s, _, rp, q, fun d k hd v H1 r1 a1 e1 => ⟨s.at k, _, r1, hd, fun d2 k2 ⟨i, j, h1, h2, ⟨b1, b2, b3, b4⟩, h4⟩ v2 H2 r2 a2 e2 => by
    subst h1 h2
    refine ⟨i, j, e1.intE, e2.intE, ⟨by omega, by omega, by omega, by omega, by omega⟩, fun q hq => f _ k2 h4 q _ (NewL.mk' r2 (a1.trans a2) (rng_rl i j) hq)⟩⟩⟩
end
end DL
namespace DL
open PySem L2
open PySem.W (Frag)
abbrev dApp (i : Nat) (t : DE) : DS := fun DD s => ∃ p ds, s.sl[i]? = some (.own p ds) ∧ t s fun d k => ds.length < lim ∧ DD.nx ((s.put i (.own p (ds ++ [d]))).at k)
abbrev dSix (i : Nat) (t u : DE) : DS := fun DD s => ∃ p ds, s.sl[i]? = some (.own p ds) ∧ u s fun d k => t (s.at k) fun j k' => ∃ z n, j = .int z ∧ ixN ds.length z = some n ∧ DD.nx ((s.put i (.own p (ds.set n d))).at k')
theorem Rep.mut {c : C} {s : S} {σ : L2.St} {H : Hp} {i : Nat} {p : Addr} {ds es : List D} {vs : List V} (r : Rep c s σ H) (h : s.sl[i]? = some (.own p ds)) (e : RlA c.K (c.hid s.X H) vs es) : Rep c (s.put i (.own p es)) σ (upd H p (.lst vs)) ∧ Sub (c.hid s.X H) (c.hid s.X (upd H p (.lst vs))) := by
  obtain ⟨e1, h1, h2, h3, ws, h4, h5⟩ := r.slot i _ h
  have sm : Sub (c.hid s.X H) (c.hid s.X (upd H p (.lst vs))) := wo_mut (List.mem_append_right _ h1)
  refine ⟨⟨r.sub.trans sm, fun a ha hm hn => ?_, r.x0, r.xm, fun a ha => ?_, r.m.eq (fun a ha _ => upd_ne fun z => r.xm p h1 (by rw [← z]; exact ha)) (.at_ h4), fun j x q => ?_, fun j k q w as bs q1 q2 ne => ?_, by rw [List.length_set]; exact r.len, r.tb.trans (.at_ h4), fun a ha => by
      by_cases z : a = p
      · rw [z, upd_same]; exact fun _ e => by cases e
      · rw [upd_ne z]; exact r.xt a ha⟩, sm⟩
  · rw [upd_ne fun z => h2 (by rw [← z]; exact ha)]
    exact r.old a ha hm hn
  · by_cases z : a = p
    · rw [z, upd_same]; simp
    · rw [upd_ne z]; exact r.xs a ha
  · rcases get_set_cases q with ⟨rfl, rfl, hl⟩ | ⟨ne, q⟩
    · exact ⟨e1, h1, h2, h3, vs, upd_same, e.mono sm⟩
    · have o := r.slot j x q
      cases x with
      | no => trivial
      | dat d =>
        obtain ⟨v, e, h⟩ := o
        exact ⟨v, e, h.mono sm⟩
      | own w as =>
        obtain ⟨q1, q2, q3, q4, us, q5, q6⟩ := o
        have nw : w ≠ p := r.apart j i w p as ds q h (fun z => ne z.symm)
        exact ⟨q1, q2, q3, q4, us, by rw [upd_ne nw]; exact q5, q6.mono sm⟩
      | mst => exact o
      | kds N Z => exact o
      | scr ns =>
        obtain ⟨v, e, h⟩ := o
        exact ⟨v, e, sm.sl h⟩
  · rcases get_set_cases q1 with ⟨rfl, q1, _⟩ | ⟨n1, q1⟩
    · cases q1
      rcases get_set_cases q2 with ⟨rfl, _, _⟩ | ⟨n2, q2⟩
      · exact absurd rfl ne
      · exact r.apart _ k _ w ds bs h q2 ne
    · rcases get_set_cases q2 with ⟨rfl, q2, _⟩ | ⟨n2, q2⟩
      · cases q2
        exact r.apart j _ q _ as ds q1 h ne
      · exact r.apart j k q w as bs q1 q2 ne
section
variable {X : Cx} {c : C} {pos : Pos}
theorem psd_app (i : Nat) {x : PySem.Str} {pn apos cpos : Pos} {e : Expr} {t : DE} (he : PE X e (LE c t)) (hN : X.N[i]? = some x := by rfl) (hv : Vis X.env.scope x := by first | exact Or.inl rfl | exact Or.inr (Or.inl rfl) | exact Or.inr (Or.inr rfl)) (hd : (x == ("__debug__" : PySem.Str)) = false := by decide) (hcd : (x == ("__classdict__" : PySem.Str)) = false := by decide)
    (hbase : attributeBase (Expr.Name x pn) "append" X.env (eval (Expr.Name x pn) X.env) = eval (Expr.Name x pn) X.env := by rfl)
    (hfew : ((backTo cpos (starEach (e :: []) X.env)).all (fun x => !x.1) && (backToKw cpos (keywordEach [] X.env)).all (fun x => x.1.isSome) && decide ((e :: []).length + ([] : List Keyword).length + (if ([] : List Keyword).isEmpty then 0 else 1) < 30)) = true := by rfl)
    (hline : (apos.endLine == cpos.line) = true := by rfl) (hs : starEach (e :: []) X.env = (false, eval e X.env) :: starEach [] X.env := by rfl) (hplain : (backTo cpos (starEach [] X.env)).any (·.1) = false := by rfl)
    (hsw : swapsWith (.Call (.Attribute (.Name x pn) "append" apos) [e] [] cpos) none pos.line X.env = pure false := by rfl) :
    PS X (.Expr (.Call (.Attribute (.Name x pn) "append" apos) [e] [] cpos) pos) (LS c (dApp i t)) :=
  (ps_expr (pe_bm PySem.F.plainAttrs_list PySem.F.slot_list_append PySem.F.type_list_append mt_append (pe_var hN hv hd hcd) (pa_cons he pa_nil hs) hbase hfew hline hs hplain) hsw).weak fun D σ H ⟨s, DD, rp, ⟨p, ds, h, q⟩, f⟩ => by
    obtain ⟨e1, h1, h2, h3, vs, h4, h5⟩ := rp.slot i _ h
    refine ⟨_, e1, .inl ⟨rfl, _, SqL.of h4⟩, s, _, rp, q, fun d k ⟨hl, hR⟩ v H1 r1 a1 e2 => ?_⟩
    have h6 : H1 p = some (.lst vs) := by rw [a1.own p h1]; exact h4
    refine ⟨p, vs, v, rfl, rfl, h6, by rw [h5.len]; exact lim_lt (Nat.le_of_lt hl), ?_⟩
    have m := Rep.mut (s := s.at k) r1 h ((h5.mono a1.sub).app (.cons e2 .nil))
    exact f.nx _ σ _ m.1 (a1.sub.trans m.2) hR
theorem psd_six (i : Nat) {x : PySem.Str} {pn p2 : Pos} {e1 e2 : Expr} {t u : DE} (h1 : PE X e1 (LE c t)) (h2 : PE X e2 (LE c u)) (hN : X.N[i]? = some x := by rfl) (hv : Vis X.env.scope x := by first | exact Or.inl rfl | exact Or.inr (Or.inl rfl) | exact Or.inr (Or.inr rfl)) (hd : (x == ("__debug__" : PySem.Str)) = false := by decide) (hcd : (x == ("__classdict__" : PySem.Str)) = false := by decide)
    (ha : ∀ v, assign (.Subscript (.Name x pn) e1 p2) X.env v = (do
      let ov ← holding [v] (eval (.Name x pn) X.env)
      let iv ← holding [v, ov] (eval e1 X.env)
      standAt p2
      holding [v, ov, iv] (setItem ov iv v)
      release [v, ov, iv] []) := by intro _; rfl)
    (hs : swapsWithSole [.Subscript (.Name x pn) e1 p2] e2 pos.line X.env = pure false := by rfl) (hw : swappedStores [.Subscript (.Name x pn) e1 p2] e2 X.env = pure none := by rfl)
    (hA : (assignEach [.Subscript (.Name x pn) e1 p2] X.env).map (·.2) = [assign (.Subscript (.Name x pn) e1 p2) X.env] := by rfl) :
    PS X (.Assign [.Subscript (.Name x pn) e1 p2] e2 pos) (LS c (dSix i t u)) :=
  (ps_asg h2 (pg_sub (pe_var hN hv hd hcd) h1 set_list ha) hs hw hA).weak fun D σ H ⟨s, DD, rp, ⟨p, ds, h, q⟩, f⟩ => by
    obtain ⟨g1, g2, g3, g4, vs, g5, g6⟩ := rp.slot i _ h
    refine ⟨s, _, rp, q, fun d k hd v H1 r1 a1 e3 => ⟨_, g1, s.at k, _, r1, hd, fun j k2 ⟨z, n, hj, hz, hR⟩ w H2 r2 a2 e4 => ?_⟩⟩
    subst hj
    have h6 : H2 p = some (.lst vs) := by rw [a2.own p g2, a1.own p g2]; exact g5
    refine ⟨p, vs, z, n, rfl, e4.intE, h6, by rw [g6.len]; exact hz, ?_⟩
    have m := Rep.mut (s := s.at k2) r2 h (RlA.set (e3.mono a2.sub) n ((g6.mono a1.sub).mono a2.sub))
    exact f.nx _ σ _ m.1 ((a1.sub.trans a2.sub).trans m.2) hR
end
inductive Vx where
  | dat (d : D) | own (p : Addr) (ds : List D)
abbrev DX := S → (List Vx → S → Prop) → Prop
def VxOk (c : C) (X : List Addr) (H : Hp) (v : V) : Vx → Prop
  | .dat d => Rl c.K (c.hid X H) v d
  | .own p ds => v = .ref p ∧ p ∈ X ∧ p ∉ c.X0 ∧ c.H0 p = none ∧ ∃ vs, H p = some (.lst vs) ∧ RlA c.K (c.hid X H) vs ds
@[reducible] def Vx.sl : Vx → Sl
  | .dat d => .dat d
  | .own p ds => .own p ds
def VxAp (sl : List Sl) : List Vx → Prop
  | [] => True
  | x :: r => (∀ p ds, x = .own p ds → (∀ (i : Nat) es, sl[i]? ≠ some (.own p es)) ∧ ∀ q es, Vx.own q es ∈ r → p ≠ q) ∧ VxAp sl r
inductive VxA (c : C) (X : List Addr) (H : Hp) : List V → List Vx → Prop
  | nil : VxA c X H [] []
  | cons {v : V} {vs : List V} {x : Vx} {xs : List Vx} : VxOk c X H v x → VxA c X H vs xs → VxA c X H (v :: vs) (x :: xs)
def LX (c : C) (t : DX) : TA := fun σ H Q => ∃ s R, Rep c s σ H ∧ t s R ∧ ∀ xs s', R xs s' → ∀ vs H', Rep c s' σ H' → Sub (c.hid s.X H) (c.hid s'.X H') → (∀ a ∈ s.X, H' a = H a) → (∀ a ∈ s.X, a ∈ s'.X) → s'.sl = s.sl → VxA c s'.X H' vs xs → (∀ p ds, Vx.own p ds ∈ xs → p ∉ s.X) → VxAp s.sl xs → Q vs H'
abbrev dxN : DX := fun s Q => Q [] s
abbrev dxD (t : DE) (u : DX) : DX := fun s Q => t s fun d k => u (s.at k) fun xs s' => Q (.dat d :: xs) s'
abbrev dxO (t : DA) (u : DX) : DX := fun s Q => t s fun ds k => ∀ p, p ∉ s.X → u (s.own p k) fun xs s' => Q (.own p ds :: xs) s'
section
variable {X : Cx} {c : C}
theorem pax_nil : PA X [] (LX c dxN) := pa_nil.weak fun σ H Q ⟨s, R, rp, q, f⟩ => f [] s q [] H rp (Sub.refl _) (fun _ _ => rfl) (fun _ h => h) rfl .nil (fun _ _ h => nomatch h) trivial
theorem pax_dat {e : Expr} {es : List Expr} {t : DE} {u : DX} (ha : PE X e (LE c t)) (hr : PA X es (LX c u)) (hs : starEach (e :: es) X.env = (false, eval e X.env) :: starEach es X.env := by rfl) : PA X (e :: es) (LX c (dxD t u)) :=
  (pa_cons ha hr hs).weak fun σ H Q ⟨s, R, rp, q, f⟩ => ⟨s, _, rp, q, fun d k hd v H1 r1 a1 e1 => ⟨s.at k, _, r1, hd, fun xs s' hx vs H2 r2 sb ow xx sl vx out ap => by
    refine f (.dat d :: xs) s' hx (v :: vs) H2 r2 (a1.sub.trans sb) (fun a h => (ow a h).trans (a1.own a h)) xx sl (.cons (e1.mono sb) vx) (fun p ds h => ?_) ⟨fun p ds h => (nomatch h), ap⟩
    rcases List.mem_cons.mp h with h | h
    · cases h
    · exact out p ds h⟩⟩
theorem pax_own {e : Expr} {es : List Expr} {t : DA} {u : DX} (ha : PE X e (LF c t)) (hr : PA X es (LX c u)) (hs : starEach (e :: es) X.env = (false, eval e X.env) :: starEach es X.env := by rfl) : PA X (e :: es) (LX c (dxO t u)) :=
  (pa_cons ha hr hs).weak fun σ H Q ⟨s, R, rp, q, f⟩ => ⟨s, _, rp, q, fun ds k hd p H1 n => ⟨s.own p k, _, n.rep, hd p n.out, fun xs s' hx vs H2 r2 sb ow xx sl vx out ap => by
    refine f (.own p ds :: xs) s' hx (.ref p :: vs) H2 r2 (n.sub.trans sb) (fun a h => (ow a (List.mem_cons_of_mem _ h)).trans (n.own a h)) (fun a h => xx a (List.mem_cons_of_mem _ h)) sl (.cons ?_ vx) (fun q es h => ?_) ⟨fun q es h => ?_, ap⟩
    · obtain ⟨ws, h1, h2⟩ := n.vals
      exact ⟨rfl, xx p List.mem_cons_self, n.out0, n.new, ws, by rw [ow p List.mem_cons_self]; exact h1, h2.mono sb⟩
    · rcases List.mem_cons.mp h with h | h
      · cases h
        exact n.out
      · exact fun z => out q es h (List.mem_cons_of_mem _ z)
    · cases h
      exact ⟨fun i es' => rp.noslot n.out i es', fun q es' h z => out q es' h (by rw [← z]; exact List.mem_cons_self)⟩⟩⟩
theorem VxOk.slot {H : Hp} {X : List Addr} {v : V} {x : Vx} (h : VxOk c X H v x) : SlOk c X H (some (some v)) x.sl := by
  cases x with
  | dat d => exact ⟨v, rfl, h⟩
  | own p ds =>
    obtain ⟨rfl, h⟩ := h
    exact ⟨rfl, h⟩
abbrev dPar2 (i j : Nat) (t : DX) : DS := fun DD s => t s fun xs s' => match xs with | [x, y] => DD.nx ((s'.put i x.sl).put j y.sl) | _ => False
abbrev dPar3 (i j l : Nat) (t : DX) : DS := fun DD s => t s fun xs s' => match xs with | [x, y, z] => DD.nx (((s'.put i x.sl).put j y.sl).put l z.sl) | _ => False
theorem put_no {s : S} {i : Nat} {x : Vx} {p : Addr} {es : List D} {j : Nat} (h : ∀ (i : Nat) es, s.sl[i]? ≠ some (.own p es)) (hx : ∀ ds, x ≠ .own p ds) : (s.put i x.sl).sl[j]? ≠ some (.own p es) := fun e => by
  rcases get_set_cases e with ⟨_, e, _⟩ | ⟨_, e⟩
  · cases x with
    | dat d => cases e
    | own q ds => cases e; exact hx es rfl
  · exact h j es e
theorem psd_par2 (i j : Nat) {x y : PySem.Str} {a b : Expr} {t : DX} {px py pt pos : Pos} {kt k2 pt2} (hc : X.calm = true) (hN : X.N.Nodup) (ha : PA X [a, b] (LX c t)) (hij : i ≠ j := by decide) (hi : X.N[i]? = some x := by rfl) (hj : X.N[j]? = some y := by rfl)
    (hx : X.env.scope.names.lookup x = some .local := by rfl) (hy : X.env.scope.names.lookup y = some .local := by rfl)
    (hw : swappedStores [.Tuple [.Name x px, .Name y py] kt pt] (.Tuple [a, b] k2 pt2) X.env = pure (some [x, y]) := by rfl)
    (hs : swapsWithSole [.Tuple [.Name x px, .Name y py] kt pt] (.Tuple [a, b] k2 pt2) pos.line X.env = pure false := by rfl) :
    PS X (.Assign [.Tuple [.Name x px, .Name y py] kt pt] (.Tuple [a, b] k2 pt2) pos) (LS c (dPar2 i j t)) :=
  (ps_par hc hN hi hj hij hx hy ha hw hs).weak fun D σ H ⟨s, DD, rp, q, f⟩ => ⟨s, _, rp, q, fun xs s' h vs H1 r1 sb ow xx sl vx out ap => by
    cases vx with
    | nil => exact h.elim
    | @cons _ _ x1 _ v1 vx =>
      cases vx with
      | nil => exact h.elim
      | @cons _ _ x2 _ v2 vx =>
        cases vx with
        | cons _ _ => exact h.elim
        | nil =>
          obtain ⟨ap1, ap2, _⟩ := ap
          refine ⟨_, _, rfl, f.nx _ _ H1 ((r1.put v1.slot fun p ds e j q es e' _ z => ?_).put v2.slot fun p ds e j q es e' _ z => ?_) sb h⟩
          · cases x1 with
            | dat d => cases e
            | own p1 ds1 =>
              cases e
              rw [sl] at e'
              exact (ap1 _ _ rfl).1 j es (z ▸ e')
          · cases x2 with
            | dat d => cases e
            | own p1 ds1 =>
              cases e
              refine put_no (s := s') (x := x1) (p := p) (fun i es => ?_) (fun es' e1 => ?_) (z ▸ e')
              · rw [sl]; exact (ap2 _ _ rfl).1 i es
              · subst e1
                exact (ap1 _ _ rfl).2 _ _ List.mem_cons_self rfl⟩
theorem VxOk.mono {H H' : Hp} {X : List Addr} {v : V} {x : Vx} (sb : Sub (c.hid X H) (c.hid X H')) (ow : ∀ a ∈ X, H' a = H a) (h : VxOk c X H v x) : VxOk c X H' v x := by
  cases x with
  | dat d => exact Rl.mono sb h
  | own p ds =>
    obtain ⟨h1, h2, h3, h4, vs, h5, h6⟩ := h
    exact ⟨h1, h2, h3, h4, vs, by rw [ow p h2]; exact h5, h6.mono sb⟩
theorem psd_tar3 (hK : c.K = X.K) (i j l : Nat) {x y z : PySem.Str} {a b d : Expr} {t : DX} {px py pz pt pos : Pos} {kt k2 pt2} (hc : X.calm = true) (hN : X.N.Nodup) (ha : PA X [a, b, d] (LX c t)) (hi : X.N[i]? = some x := by rfl) (hj : X.N[j]? = some y := by rfl) (hl : X.N[l]? = some z := by rfl)
    (hx : Loc X.env.scope x := by first | exact Or.inl rfl | exact Or.inr rfl) (hy : Loc X.env.scope y := by first | exact Or.inl rfl | exact Or.inr rfl) (hz : Loc X.env.scope z := by first | exact Or.inl rfl | exact Or.inr rfl)
    (fx : X.fn x = true ∨ X.env.scope.names.lookup x = some .local := by first | exact .inl rfl | exact .inr rfl) (fy : X.fn y = true ∨ X.env.scope.names.lookup y = some .local := by first | exact .inl rfl | exact .inr rfl) (fz : X.fn z = true ∨ X.env.scope.names.lookup z = some .local := by first | exact .inl rfl | exact .inr rfl)
    (h1 : (assignEach [.Name x px, .Name y py, .Name z pz] X.env).map (·.2) = assign (.Name x px) X.env :: (assignEach [.Name y py, .Name z pz] X.env).map (·.2) := by rfl) (h2 : (assignEach [.Name y py, .Name z pz] X.env).map (·.2) = assign (.Name y py) X.env :: (assignEach [.Name z pz] X.env).map (·.2) := by rfl)
    (h3 : (assignEach [.Name z pz] X.env).map (·.2) = assign (.Name z pz) X.env :: (assignEach [] X.env).map (·.2) := by rfl)
    (hn : (assignEach [.Name x px, .Name y py, .Name z pz] X.env).length = 3 := by rfl) (hst : (assignEach [.Name x px, .Name y py, .Name z pz] X.env).findIdx? (·.1) = none := by rfl)
    (hs : swapsWithSole [.Tuple [.Name x px, .Name y py, .Name z pz] kt pt] (.Tuple [a, b, d] k2 pt2) pos.line X.env = pure false := by rfl) (hw : swappedStores [.Tuple [.Name x px, .Name y py, .Name z pz] kt pt] (.Tuple [a, b, d] k2 pt2) X.env = pure none := by rfl)
    (hA : (assignEach [.Tuple [.Name x px, .Name y py, .Name z pz] kt pt] X.env).map (·.2) = [assign (.Tuple [.Name x px, .Name y py, .Name z pz] kt pt) X.env] := by rfl) :
    PS X (.Assign [.Tuple [.Name x px, .Name y py, .Name z pz] kt pt] (.Tuple [a, b, d] k2 pt2) pos) (LS c (dPar3 i j l t)) :=
  (ps_asg (pe_tup ha) (pg_tup hc (pgs_cons (pg_name hN hi hx fx) (pgs_cons (pg_name hN hj hy fy) (pgs_cons (pg_name hN hl hz fz) pgs_nil h3) h2) h1) hn hst) hs hw hA).weak fun D σ H ⟨s, DD, rp, q, f⟩ => ⟨s, _, rp, q, fun xs s' h vs H1 r1 sb ow xx sl vx out ap => by
    cases vx with
    | nil => exact h.elim
    | @cons w1 _ x1 _ v1 vx =>
      cases vx with
      | nil => exact h.elim
      | @cons w2 _ x2 _ v2 vx =>
        cases vx with
        | nil => exact h.elim
        | @cons w3 _ x3 _ v3 vx =>
          cases vx with
          | cons _ _ => exact h.elim
          | nil =>
            obtain ⟨ap1, ap2, ap3, _⟩ := ap
            refine ⟨by show 3 ≤ sizeLine; decide, fun p hp => ⟨p, _, rfl, SqT.of upd_same, rfl, _, _, rfl, _, _, rfl, _, _, rfl, rfl, ?_⟩⟩
            have n := r1.new (o := .tup [w1, w2, w3]) hp
            refine f.nx _ _ _ (((n.1.put (v1.mono n.2.sub n.2.own).slot fun p ds e j q es e' _ z => ?_).put (v2.mono n.2.sub n.2.own).slot fun p ds e j q es e' _ z => ?_).put (v3.mono n.2.sub n.2.own).slot fun p ds e j q es e' _ z => ?_) (sb.trans n.2.sub) h
            · cases x1 with
              | dat d => cases e
              | own p1 ds1 =>
                cases e
                rw [sl] at e'
                exact (ap1 _ _ rfl).1 j es (z ▸ e')
            · cases x2 with
              | dat d => cases e
              | own p1 ds1 =>
                cases e
                refine put_no (s := s') (x := x1) (p := p) (fun i es => ?_) (fun es' e1 => ?_) (z ▸ e')
                · rw [sl]; exact (ap2 _ _ rfl).1 i es
                · subst e1
                  exact (ap1 _ _ rfl).2 _ _ List.mem_cons_self rfl
            · cases x3 with
              | dat d => cases e
              | own p1 ds1 =>
                cases e
                rcases get_set_cases e' with ⟨_, e3, _⟩ | ⟨_, e3⟩
                · cases x2 with
                  | dat d => cases e3
                  | own q2 ds2 =>
                    cases e3
                    exact (ap2 _ _ rfl).2 _ _ List.mem_cons_self z.symm
                · refine put_no (s := s') (x := x1) (p := p) (fun i es => ?_) (fun es' e1 => ?_) (z ▸ e3)
                  · rw [sl]; exact (ap3 _ _ rfl).1 i es
                  · subst e1
                    exact (ap1 _ _ rfl).2 _ _ (List.mem_cons_of_mem _ List.mem_cons_self) rfl⟩
end
end DL
namespace DL
open PySem L2
open PySem.W (Frag)
abbrev DSp := List D → Nat → (D → Nat → Prop) → Prop
structure Aft (K : Frag) (M : Option Mc) (X0 : List Addr) (H H' : Hp) (k : Nat) : Prop where
  sub : Sub (wo H (Ml M ++ X0)) (wo H' (Ml M ++ X0))
  old : ∀ a ∈ X0, H' a = H a
  m : MAt M H' k
  tb : TbK H H'
structure Ahd (K : Frag) (M : Option Mc) (X0 : List Addr) (H : Hp) (k : Nat) (ws : List V) (ds : List D) : Prop where
  xm : ∀ a ∈ X0, a ∉ Ml M
  xs : ∀ a ∈ X0, H a ≠ none
  m : MAt M H k
  args : RlA K (wo H (Ml M ++ X0)) ws ds
  xt : ∀ a ∈ X0, ∀ ps, H a ≠ some (.tbl ps)
def spD (K : Frag) (hm : Bool) (sp : DSp) : Sp := fun vs H Q _ => ∃ (M : Option Mc) (X0 : List Addr) (k : Nat) (ds : List D) (ws : List V) (R : D → Nat → Prop),
  (match hm with | true => ∃ m, (M = some m ∧ m.kd = none) ∧ vs = .ref m.pm :: ws | false => M = none ∧ vs = ws) ∧ Ahd K M X0 H k ws ds ∧ sp ds k R ∧
  ∀ d k', R d k' → ∀ v H', Aft K M X0 H H' k' → Rl K (wo H' (Ml M ++ X0)) v d → Q v H'
structure CalD (P : Program) (w : World) (K : Frag) (mg : PySem.Str → Option Value) (base : Heap) (k : Nat) (x : PySem.Str) (hm : Bool) (sp : DSp) : Prop where
  ex : ∃ f fd ps, FnOk P w K mg base CX0 k f fd ps (spD K hm sp) ∧ mg x = some (.ref f) ∧ PySem.W.keepIn K (.ref f) = true ∧ Binds K fd ps []
abbrev dCall (sp : DSp) (t : DA) : DE := fun s Q => t s fun ds k => sp ds 0 fun d _ => Q d k
abbrev dCallM (i : Nat) (sp : DSp) (t : DA) : DE := fun s Q => s.sl[i]? = some .mst ∧ t s fun ds k => sp ds k Q
theorem Rep.allHid {c : C} {s : S} {σ : L2.St} {H : Hp} (r : Rep c s σ H) : ∀ a ∈ Ml c.M ++ s.X, H a ≠ none := fun a h => by
  rcases List.mem_append.mp h with h | h
  · exact r.m.there a h
  · exact r.xs a h
theorem MAt.noTb {m : Option Mc} {H : Hp} {k : Nat} (h : MAt m H k) : ∀ a ∈ Ml m, ∀ ps, H a ≠ some (.tbl ps) := by
  cases m with
  | none => intro a ha; simp [Ml] at ha
  | some m =>
    cases ek : m.kd with
    | none =>
      obtain ⟨cs, gs, n, o, q⟩ := h.dr ek
      intro a ha ps
      simp [Ml] at ha
      rcases ha with rfl | rfl | rfl
      · rw [o.hm]; intro e; cases e
      · rw [o.hc]; intro e; cases e
      · rw [o.hg]; intro e; cases e
    | some kn =>
      obtain ⟨L, o⟩ := h.kn ek
      intro a ha ps
      simp [Ml] at ha
      have : a = m.pm := by
        rcases ha with rfl | rfl | rfl
        · rfl
        · exact o.pc
        · exact o.pg
      rw [this, o.hp]; intro e; cases e
theorem Rep.allTb {c : C} {s : S} {σ : L2.St} {H : Hp} (r : Rep c s σ H) : ∀ a ∈ Ml c.M ++ s.X, ∀ ps, H a ≠ some (.tbl ps) := fun a h => (List.mem_append.mp h).elim (r.m.noTb a) (r.xt a)
theorem Rep.after {c : C} {s : S} {σ : L2.St} {H H' : Hp} {k : Nat} (r : Rep c s σ H) (a : Aft c.K none (Ml c.M ++ s.X) H H' k) : Rep c s σ H' ∧ AdvE c s.X H H' := by
  have h : Sub (c.hid s.X H) (c.hid s.X H') := a.sub
  refine ⟨r.step (k := s.k) h (fun b hb _ => a.old b (List.mem_append_right _ hb)) (r.m.eq (fun b hb _ => a.old b (List.mem_append_left _ hb)) a.tb) (r.tb.trans a.tb), h, fun b hb => a.old b (List.mem_append_right _ hb)⟩
theorem Rep.afterM {c : C} {s : S} {σ : L2.St} {H H' : Hp} {k : Nat} (r : Rep c s σ H) (a : Aft c.K c.M s.X H H' k) : Rep c (s.at k) σ H' ∧ AdvE c s.X H H' :=
  ⟨r.step a.sub (fun b hb _ => a.old b hb) a.m (r.tb.trans a.tb), a.sub, a.old⟩
section
variable {X : Cx} {c : C} {k j : Nat} {x : PySem.Str} {sp : DSp} {p pos : Pos}
theorem pd_call (hK : c.K = X.K) (F : CalD X.prog X.w X.K X.mg X.base k x false sp) (hr : Room j X.A) (hk : k ≤ j) {e : Expr} {es : List Expr} {t : DA} (ha : PA X (e :: es) (LA c t)) (hg : Gl X x := by rfl) (hdb : (x == ("__debug__" : PySem.Str)) = false := by decide) (he : starEach (e :: es) X.env = (false, eval e X.env) :: starEach es X.env := by rfl) (hpl : (backTo pos (starEach es X.env)).any (·.1) = false := by rfl) :
    PE X (.Call (.Name x p) (e :: es) [] pos) (LE c (dCall sp t)) := by
  obtain ⟨f, fd, ps, G, hm, kp, b⟩ := F.ex
  refine (pe_call G (hr.mono hk) hg hm kp b .nil pass0 ha hdb he hpl).weak fun σ H Q ⟨s, R, rp, q, fn⟩ => ⟨s, _, rp, q, fun ds k1 h1 vs H1 r1 a1 e1 => ?_⟩
  refine ⟨none, Ml c.M ++ s.X, 0, ds, vs, _, ⟨rfl, by rw [List.append_nil]⟩, ⟨fun a _ => by simp [Ml], r1.allHid, trivial, hK ▸ e1, r1.allTb⟩, h1, fun d k' hR v H' af er => ?_⟩
  have z := Rep.after (s := s.at k1) r1 ⟨af.sub, af.old, af.m, af.tb⟩
  exact fn d k1 hR v H' z.1 (a1.trans z.2) (hK ▸ er)
theorem pd_callM (hK : c.K = X.K) (F : CalD X.prog X.w X.K X.mg X.base k x true sp) (hr : Room j X.A) (hk : k ≤ j) (i : Nat) {y : PySem.Str} {pn : Pos} {es : List Expr} {t : DA} (ha : PA X es (LA c t)) (hN : X.N[i]? = some y := by rfl) (hv : Vis X.env.scope y := by first | exact Or.inl rfl | exact Or.inr (Or.inl rfl) | exact Or.inr (Or.inr rfl)) (hd : (y == ("__debug__" : PySem.Str)) = false := by decide) (hcd : (y == ("__classdict__" : PySem.Str)) = false := by decide)
    (hg : Gl X x := by rfl) (hdb : (x == ("__debug__" : PySem.Str)) = false := by decide) (he : starEach (Expr.Name y pn :: es) X.env = (false, eval (Expr.Name y pn) X.env) :: starEach es X.env := by rfl) (hpl : (backTo pos (starEach es X.env)).any (·.1) = false := by rfl) :
    PE X (.Call (.Name x p) (.Name y pn :: es) [] pos) (LE c (dCallM i sp t)) := by
  obtain ⟨f, fd, ps, G, hm, kp, b⟩ := F.ex
  refine (pe_call G (hr.mono hk) hg hm kp b .nil pass0 (pa_cons (pe_var hN hv hd hcd) ha he) hdb he hpl).weak fun σ H Q ⟨s, R, rp, ⟨hs, q⟩, fn⟩ => ?_
  obtain ⟨m, hM, e0⟩ := rp.slot i _ hs
  refine ⟨_, e0, s, _, rp, q, fun ds k1 h1 vs H1 r1 a1 e1 => ?_⟩
  refine ⟨c.M, s.X, k1, ds, vs, _, ⟨m, hM, by rw [List.append_nil]⟩, ⟨r1.xm, r1.xs, r1.m, hK ▸ e1, r1.xt⟩, h1, fun d k' hR v H' af er => ?_⟩
  have z := Rep.afterM (s := s.at k1) r1 ⟨af.sub, af.old, af.m, af.tb⟩
  exact fn d k' hR v H' z.1 (a1.trans z.2) (hK ▸ er)
end
@[reducible] def init (hm : Bool) (n : Nat) (ds : List D) : List Sl := (match hm with | true => [Sl.mst] | false => []) ++ ds.map .dat ++ List.replicate (n - (ds.length + (match hm with | true => 1 | false => 0))) .no
theorem start_get {N : List PySem.Str} {vs : List V} {i : Nat} {v : V} (h : vs[i]? = some v) : (L2.start N vs)[i]? = some (some v) := by
  unfold L2.start
  rw [List.getElem?_append_left (by rw [List.length_map]; exact (List.getElem?_eq_some_iff.mp h).1), List.getElem?_map, h]
  rfl
theorem init_rep {c : C} {hm : Bool} {N : List PySem.Str} {vs ws : List V} {ds : List D} {H : Hp} {k : Nat} (hc : c.H0 = H) (h : match hm with | true => ∃ m, (c.M = some m ∧ m.kd = none) ∧ vs = .ref m.pm :: ws | false => c.M = none ∧ vs = ws)
    (a : Ahd c.K c.M c.X0 H k ws ds) (hl : vs.length ≤ N.length) : Rep c ⟨c.X0, init hm N.length ds, k⟩ (L2.start N vs) H := by
  subst hc
  have len := a.args.len
  have dat : ∀ (i : Nat) (o : Nat) (x : Sl), (∀ (j : Nat) (w : V), ws[j]? = some w → vs[j + o]? = some w) → (ds.map Sl.dat ++ List.replicate (N.length - (ds.length + o)) Sl.no)[i]? = some x → SlOk c c.X0 c.H0 (L2.start N vs)[i + o]? x := fun i o x hw e => by
    by_cases hi : i < ds.length
    · rw [List.getElem?_append_left (by rw [List.length_map]; exact hi), List.getElem?_map] at e
      obtain ⟨d, hd⟩ : ∃ d, ds[i]? = some d := ⟨ds[i], by simp [hi]⟩
      rw [hd] at e
      cases e
      obtain ⟨w, h1, h2⟩ := a.args.getD hd
      exact ⟨w, start_get (hw i w h1), h2⟩
    · rw [List.getElem?_append_right (by rw [List.length_map]; omega), List.getElem?_replicate] at e
      split at e
      · cases e; trivial
      · cases e
  refine ⟨Sub.refl _, fun _ _ _ _ => rfl, fun _ h => h, a.xm, a.xs, a.m, fun i x e => ?_, fun i j p q as bs e1 _ _ => ?_, ?_, .refl, a.xt⟩
  · cases hm with
    | false =>
      obtain ⟨_, rfl⟩ := h
      exact dat i 0 x (fun j w h => h) (by simpa [init] using e)
    | true =>
      obtain ⟨m, hM, rfl⟩ := h
      cases i with
      | zero =>
        have e' : Sl.mst = x := Option.some.inj e
        subst e'
        exact ⟨m, hM, start_get rfl⟩
      | succ i => exact dat i 1 x (fun j w h => h) (by simpa [init] using e)
  · have e1 : (init hm N.length ds)[i]? = some (.own p as) := e1
    unfold init at e1
    have mem := List.mem_of_getElem? e1
    cases hm <;> simp at mem
  · show (init hm N.length ds).length = (L2.start N vs).length
    unfold init L2.start
    cases hm with
    | false =>
      obtain ⟨_, rfl⟩ := h
      simp
      omega
    | true =>
      obtain ⟨m, hM, rfl⟩ := h
      simp at hl
      simp
      omega
section
variable {P : Program} {w : World} {K : Frag} {mg : PySem.Str → Option Value} {base : Heap}
theorem okD {x qual : PySem.Str} {st : Stmt} {f : Addr} {fd : FuncData} {N ps : List PySem.Str} {k : Nat} {hm : Bool} {sp : DSp} (F : Fun K x qual st f fd) (Sc : FnScope N ps (defScope st)) (ow : List Nat)
    (len : ∀ ds k R, sp ds k R → ds.length + (match hm with | true => 1 | false => 0) = ps.length)
    (body : ∃ t : DS, (∀ (cdv : Value) (A : Around) (outer : List Env) (s : Shared) (H : Hp) (E : XK) (M : Option Mc) (X0 : List Addr), Room k (A.deeper (PyProof.Rows.envOfC qual (defScope st) s.heap.objs.size f cdv)) →
        PSs (cxOf CX0 P w K mg base N qual (defScope st) f cdv A outer s H E).nox (defBody st) (LS ⟨K, M, X0, H, ow⟩ t)) ∧
      ∀ X ds k R, sp ds k R → t { nx := fun s => R .non s.k, rt := R } ⟨X, init hm N.length ds, k⟩) :
    FnOk P w K mg base CX0 (k + 1) f fd ps (spD K hm sp) := by
  obtain ⟨t, hb, hr⟩ := body
  have lens : ∀ vs H Q E, spD K hm sp vs H Q E → vs.length = ps.length := fun vs H Q E ⟨M, X0, k, ds, ws, R, h1, a, h2, h3⟩ => by
    have q := len ds k R h2
    have l := a.args.len
    cases hm with
    | false =>
      obtain ⟨_, rfl⟩ := h1
      rw [l]
      exact q
    | true =>
      obtain ⟨m, _, rfl⟩ := h1
      rw [List.length_cons, l]
      exact q
  refine F.ok Sc lens fun cdv A outer s H vs Q E room h => ?_
  have hl := lens _ _ _ _ h
  obtain ⟨M, X0, k', ds, ws, R, h1, a, h2, h3⟩ := h
  have hpl : ps.length ≤ N.length := by have := congrArg List.length Sc.pre; rw [List.length_take] at this; omega
  refine ⟨LS ⟨K, M, X0, H, ow⟩ t, hb cdv A outer s H E M X0 room, ⟨X0, init hm N.length ds, k'⟩, _, init_rep (c := ⟨K, M, X0, H, ow⟩) rfl h1 a (by omega), hr X0 ds k' R h2, ?_⟩
  have fin : ∀ d k v H', Fin ⟨K, M, X0, H, ow⟩ H' k → Rl K (wo H' (Ml M ++ X0)) v d → R d k → Q v H' := fun d k v H' fi e r => h3 d k r v H' ⟨fi.sub, fun b hb => fi.old b hb (a.xm b hb) (a.xs b hb), fi.m, fi.tb⟩ e
  exact ⟨fun s' σ' H' r _ q => fin .non s'.k .non H' r.fin .non q, fun _ _ _ _ _ q => q, fun _ _ _ _ _ q => q, fun d k v H' fi e r => fin d k v H' fi e r⟩
end
end DL
namespace DL
open PySem L2
open PySem.W (Frag)
inductive KvA (K : Frag) (H : Hp) : List (Int × V) → List (Int × D) → Prop
  | nil : KvA K H [] []
  | cons {k : Int} {v : V} {vs : List (Int × V)} {d : D} {ds : List (Int × D)} : Rl K H v d → KvA K H vs ds → KvA K H ((k, v) :: vs) ((k, d) :: ds)
def lookI {α : Type} (l : List (Int × α)) (i : Int) : Option α := (l.find? fun p => decide (p.1 = i)).map (·.2)
theorem KvA.look {K : Frag} {H : Hp} : ∀ {vs : List (Int × V)} {ds : List (Int × D)} {i : Int}, KvA K H vs ds → (∀ d, lookI ds i = some d → ∃ v, lookI vs i = some v ∧ Rl K H v d) ∧ (lookI ds i = none → lookI vs i = none)
  | _, _, i, .nil => ⟨fun d h => (by cases h), fun _ => rfl⟩
  | _, _, i, .cons (k := k) (v := v) (d := e) r rr => by
    have ih := KvA.look (i := i) rr
    unfold lookI at ih ⊢
    by_cases hk : k = i
    · subst hk
      simp only [List.find?_cons, decide_true, Option.map_some, Option.some.injEq]
      exact ⟨fun d h => (by subst h; exact ⟨v, rfl, r⟩), fun h => (by cases h)⟩
    · simp only [List.find?_cons, decide_eq_false hk]
      exact ih
structure KdAt (P : Program) (w : World) (K : Frag) (mg : PySem.Str → Option Value) (x : PySem.Str) (kvs : List (Int × D)) : Prop where
  ex : ∃ (a : Addr) (us : List (Int × Value)) (vs : List (Int × V)), mg x = some (.ref a) ∧ (a == sysModules) = false ∧ (∀ h : Heap, K.In h → h.DictOf (intKind P w) a us) ∧ KV vs us ∧ ∀ H, KvA K H vs kvs
theorem KV.look {vs : List (Int × V)} {us : List (Int × Value)} {i : Int} (r : KV vs us) : RelO (lookI vs i) (valueAt us i) := by
  have h : RelO ((vs.find? fun kv => decide (kv.1 = i)).map (·.2)) (valueAt us i) := by
    unfold valueAt
    induction r with
    | nil => trivial
    | @cons p q _ _ h t ih =>
      obtain ⟨a, b⟩ := p
      obtain ⟨a', b'⟩ := q
      obtain ⟨h1, h2⟩ := h
      have h1 : a = a' := h1
      subst h1
      by_cases e : a = i
      · simp only [List.find?_cons, decide_eq_true e]
        exact h2
      · simp only [List.find?_cons, decide_eq_false e]
        exact ih
  exact h
abbrev dKd (kvs : List (Int × D)) (t : DE) : DE := fun s Q => t s fun d k => ∃ i e, d = .int i ∧ lookI kvs i = some e ∧ Q e k
abbrev dKdIn (kvs : List (Int × D)) (t : DE) : DE := fun s Q => t s fun d k => ∃ i, d = .int i ∧ Q (.bl (lookI kvs i).isSome) k
section
variable {X : Cx} {c : C} {pos : Pos} {x : PySem.Str} {kvs : List (Int × D)}
theorem pd_kd (hK : c.K = X.K) (h : KdAt X.prog X.w X.K X.mg x kvs) {pn : Pos} {i : Expr} {t : DE} (ht : PE X i (LE c t)) (hs : NoSl i := by exact fun _ _ => rfl) (hg : Gl X x := by rfl) (hdb : (x == ("__debug__" : PySem.Str)) = false := by decide) :
    PE X (.Subscript (.Name x pn) i pos) (LE c (dKd kvs t)) := by
  obtain ⟨a, us, vs, hm, low, hd, kv, rl⟩ := h.ex
  refine ⟨fun pins s σ H Q I ⟨st, R, rp, q, f⟩ => ?_⟩
  refine subD_of PySem.F.slot_dict_getitem.lookup hs ?_
  refine ld_glob I hg hm ?_ hdb
  refine thn (ht.run pins s σ H _ I ⟨st, _, rp, q, fun d k h v H1 r1 a1 e1 => (⟨d, k, h, r1, a1, e1⟩ : (fun v H1 => ∃ d k, (∃ i e, d = D.int i ∧ lookI kvs i = some e ∧ R e k) ∧ Rep c (st.at k) σ H1 ∧ AdvE c st.X H H1 ∧ Rl c.K (c.hid st.X H1) v d) v H1)⟩) fun u s1 ⟨v, H1, I1, rv, d, k, ⟨j, e, hj, he, hR⟩, r1, a1, e1⟩ => ?_
  subst hj
  cases e1.intE
  obtain ⟨t', rfl⟩ := rv
  have dd := hd s1.heap I1.kIn
  obtain ⟨v, hv, hr⟩ := ((rl (c.hid st.X H1)).look (i := j)).1 e he
  obtain ⟨u, hu, ru⟩ := RelO.some_of (v := v) (o := valueAt us j) (by rw [← hv]; exact KV.look kv)
  exact ⟨dd.typeIs, wpAny_getItem_of (knd := intKind X.prog X.w) (k := j) (by simp [intKind, Value.isInt]) dd.mapOf hu ⟨v, H1, I1.tok _, ru, f e k hR v H1 r1 a1 (hK ▸ hr)⟩⟩
theorem pd_inkd (h : KdAt X.prog X.w X.K X.mg x kvs) {pn : Pos} {i : Expr} {t : DE} (ht : PE X i (LE c t)) (hg : Gl X x := by rfl) (hdb : (x == ("__debug__" : PySem.Str)) = false := by decide) (hb : behindInMarks .In (Expr.Name x pn) = false := by rfl) :
    PE X (.Compare i [.In] [.Name x pn] pos) (LE c (dKdIn kvs t)) := by
  obtain ⟨a, us, vs, hm, low, hd, kv, rl⟩ := h.ex
  refine pe_cmp (op := .In) ⟨fun pins s σ H Q I ⟨st, R, rp, q, f⟩ => ?_⟩ hb
  refine thn (ht.run pins s σ H _ I ⟨st, _, rp, q, fun d k h v H1 r1 a1 e1 => (⟨d, k, h, r1, a1, e1⟩ : (fun v H1 => ∃ d k, (∃ i, d = D.int i ∧ R (.bl (lookI kvs i).isSome) k) ∧ Rep c (st.at k) σ H1 ∧ AdvE c st.X H H1 ∧ Rl c.K (c.hid st.X H1) v d) v H1)⟩) fun u s1 ⟨v, H1, I1, rv, d, k, ⟨j, hj, hR⟩, r1, a1, e1⟩ => ?_
  subst hj
  cases e1.intE
  obtain ⟨t', rfl⟩ := rv
  refine ld_glob I1 hg hm ?_ hdb
  have dd := hd s1.heap I1.kIn
  refine wpAny_in_of (knd := intKind X.prog X.w) (k := j) (by simp [intKind, Value.isInt]) low dd.mapOf ?_
  have z := KV.look (i := j) kv
  have y := (rl (c.hid st.X H1)).look (i := j)
  have eq : (valueAt us j).isSome = (lookI kvs j).isSome := by
    cases h1 : lookI kvs j with
    | none =>
      rw [y.2 h1] at z
      cases h2 : valueAt us j with
      | none => rfl
      | some u => rw [h2] at z; exact z.elim
    | some d =>
      obtain ⟨v, h3, _⟩ := y.1 d h1
      rw [h3] at z
      cases h2 : valueAt us j with
      | none => rw [h2] at z; exact z.elim
      | some u => rfl
  rw [eq]
  exact ⟨.bl _, H1, I1.tok _, rfl, f _ k hR _ H1 r1 a1 (.bl _)⟩
end
end DL
namespace DL
open PySem L2
open PySem.W (Frag)
abbrev dPairs : List (Int × DE) → S → (List (Int × D) → Nat → Prop) → Prop
  | [], s, Q => Q [] s.k
  | (i, t) :: r, s, Q => t s fun d k => dPairs r (s.at k) fun ds k' => Q ((i, d) :: ds) k'
abbrev dDix (kv : List (Int × DE)) (t : DE) : DE := fun s Q => ∀ p, p ∉ s.X → dPairs kv (s.own p s.k) fun vals k => ((vals.map (·.1)).Nodup ∧ vals.length ≤ 15) ∧ t (s.own p k) fun d k' => ∃ i e, d = .int i ∧ lookI vals i = some e ∧ Q e k'
theorem dPairs_ok {c : C} : ∀ (kv : List (Int × DE)) (s : S) (σ : L2.St) (H : Hp) (R : List (Int × D) → Nat → Prop) (Q : List (V × V) → Hp → Prop), Rep c s σ H → dPairs kv s R →
    (∀ ds k, R ds k → ∀ (vs : List (Int × V)) H', Rep c (s.at k) σ H' → AdvE c s.X H H' → KvA c.K (c.hid s.X H') vs ds → Q (vs.map fun p => (V.int p.1, p.2)) H') → tPairs (kv.map fun p => (tC (.int p.1), LE c p.2)) σ H Q
  | [], s, σ, H, R, Q, rp, q, f => f [] s.k q [] H rp AdvE.refl .nil
  | (i, t) :: r, s, σ, H, R, Q, rp, q, f => ⟨s, _, rp, q, fun d k h v H1 r1 a1 e1 => dPairs_ok r (s.at k) σ H1 _ _ r1 h fun ds k' hR vs H2 r2 a2 kv => f ((i, d) :: ds) k' hR ((i, v) :: vs) H2 r2 (a1.trans a2) (.cons (e1.mono a2.sub) kv)⟩
theorem merge_keys : ∀ (ps acc : List (Key × V)), (acc.map (·.1) ++ ps.map (·.1)).Nodup → mergeK acc ps = acc ++ ps := by
  intro ps
  induction ps with
  | nil => intro acc _; simp [mergeK]
  | cons p r ih =>
    intro acc h
    have h1 : mergeK acc (p :: r) = mergeK (putK acc p.1 p.2) r := rfl
    rw [h1]
    have hn : acc.any (fun kv => decide (kv.1 = p.1)) = false := by
      rw [List.any_eq_false]
      intro q hq
      simp only [decide_eq_true_eq]
      intro e
      have := (List.nodup_append.mp h).2.2 q.1 (List.mem_map.mpr ⟨q, hq, rfl⟩) p.1 (by simp)
      exact this e
    have h2 : putK acc p.1 p.2 = acc ++ [p] := by
      unfold putK
      rw [if_neg (by rw [hn]; exact Bool.false_ne_true)]
    rw [h2, ih (acc ++ [p]) (by simpa [List.append_assoc] using h), List.append_assoc]
    rfl
theorem look_val (vs : List (Int × V)) (i : Int) : valV (vs.map fun p => ((Sum.inl p.1 : Key), p.2)) (Sum.inl i) = lookI vs i := by
  unfold valV lookI
  induction vs with
  | nil => rfl
  | cons p r ih =>
    by_cases e : p.1 = i
    · simp [e]
    · have : ¬ ((Sum.inl p.1 : Key) = Sum.inl i) := fun q => e (Sum.inl.inj q)
      simp only [List.map_cons, List.find?_cons, decide_eq_false this, decide_eq_false e]
      exact ih
theorem KvA.keys {K : Frag} {H : Hp} : ∀ {vs : List (Int × V)} {ds : List (Int × D)}, KvA K H vs ds → vs.map (·.1) = ds.map (·.1)
  | _, _, .nil => rfl
  | _, _, .cons _ r => congrArg (_ :: ·) (KvA.keys r)
theorem KvA.mono {K : Frag} {A B : Hp} (x : Sub A B) : ∀ {vs : List (Int × V)} {ds : List (Int × D)}, KvA K A vs ds → KvA K B vs ds
  | _, _, .nil => .nil
  | _, _, .cons h r => .cons (h.mono x) (KvA.mono x r)
theorem nodup_inl : ∀ {l : List Int}, l.Nodup → (l.map fun i => (Sum.inl i : Key)).Nodup := fun {l} h => by
  induction l with
  | nil => exact List.nodup_nil
  | cons a r ih =>
    obtain ⟨h1, h2⟩ := List.nodup_cons.mp h
    refine List.nodup_cons.mpr ⟨fun z => ?_, ih h2⟩
    obtain ⟨b, hb, e⟩ := List.mem_map.mp z
    exact h1 (Sum.inl.inj e ▸ hb)
theorem Rep.mutX {c : C} {s : S} {σ : L2.St} {H : Hp} {p : Addr} {o : HO} (r : Rep c s σ H) (hp : p ∈ s.X) (h0 : p ∉ c.X0) (no : ∀ (i : Nat) ds, s.sl[i]? ≠ some (.own p ds)) (tb : TbK H (upd H p o)) (ht : NoTb o := by intro _ z; cases z) : Rep c s σ (upd H p o) ∧ Sub (c.hid s.X H) (c.hid s.X (upd H p o)) := by
  have sm : Sub (c.hid s.X H) (c.hid s.X (upd H p o)) := wo_mut (List.mem_append_right _ hp)
  refine ⟨⟨r.sub.trans sm, fun a ha hm hn => ?_, r.x0, r.xm, fun a ha => ?_, r.m.eq (fun a ha _ => upd_ne fun z => r.xm p hp (by rw [← z]; exact ha)) tb, fun j x e => ?_, r.apart, r.len, r.tb.trans tb, fun a ha => by
      by_cases z : a = p
      · rw [z, upd_same]; exact fun ps e => ht ps (Option.some.inj e)
      · rw [upd_ne z]; exact r.xt a ha⟩, sm⟩
  · rw [upd_ne fun z => h0 (by rw [← z]; exact ha)]
    exact r.old a ha hm hn
  · by_cases z : a = p
    · rw [z, upd_same]; simp
    · rw [upd_ne z]; exact r.xs a ha
  · have q := r.slot j x e
    cases x with
    | no => trivial
    | dat d =>
      obtain ⟨v, e, h⟩ := q
      exact ⟨v, e, h.mono sm⟩
    | own w ds =>
      obtain ⟨e', h1, h2, h3, ws, h4, h5⟩ := q
      have nw : w ≠ p := fun z => no j ds (z ▸ e)
      exact ⟨e', h1, h2, h3, ws, by rw [upd_ne nw]; exact h4, h5.mono sm⟩
    | mst => exact q
    | kds N Z => exact q
    | scr ns =>
      obtain ⟨v, e, h⟩ := q
      exact ⟨v, e, sm.sl h⟩
section
variable {X : Cx} {c : C} {pos p1 : Pos}
theorem pd_dix (hK : c.K = X.K) {j : Nat} (hr : Room j X.A) {keys : List (Option Expr)} {values : List Expr} {kv : List (Int × DE)} {i : Expr} {t : DE} (hp : PPs X p1 keys values (kv.map fun p => (tC (.int p.1), LE c p.2))) (ht : PE X i (LE c t)) (hall : keys.all (·.isSome) = true := by rfl) (hl : keys.length = values.length := by rfl)
    (h0 : keys ≠ [] := by exact fun z => by cases z) (h15 : keys.length ≤ 15 := by decide) (hs : NoSl i := by exact fun _ _ => rfl) : PE X (.Subscript (.Dict keys values p1) i pos) (LE c (dDix kv t)) :=
  (pe_dget (hu_of hr) (pe_disp hp hall hl h0 h15) ht hs).weak fun σ H Q ⟨s, R, rp, q, f⟩ => by
    intro p hpn
    have h := rp.hide (o := .dK []) hpn
    obtain ⟨n1, n2, n3, n4⟩ := rp.nofree hpn
    refine dPairs_ok kv (s.own p s.k) σ _ _ _ h.1 (q p n1) fun ds k ⟨⟨nd, l15⟩, hk⟩ vs H2 r2 a2 kva => ?_
    have d2 : H2 p = some (.dK []) := by rw [a2.own p List.mem_cons_self]; exact upd_same
    have no := fun (i : Nat) (es : List D) => rp.noslot n1 i es
    refine ⟨d2, vs.map fun p => ((Sum.inl p.1 : Key), p.2), by rw [List.map_map]; rfl, ?_, ?_⟩
    · rw [List.length_map]
      have e1 := congrArg List.length kva.keys
      rw [List.length_map, List.length_map] at e1
      omega
    · have m := Rep.mutX (s := s.own p k) (o := .dK (mergeK [] (vs.map fun p => ((Sum.inl p.1 : Key), p.2)))) r2 List.mem_cons_self n3 no (.at_ d2)
      refine ⟨s.own p k, _, m.1, hk, fun d k' ⟨i, e, hd, hl, hR⟩ v H4 r4 a4 e4 => ?_⟩
      subst hd
      cases e4.intE
      obtain ⟨v, hv, hr⟩ := (KvA.look (i := i) (kva.mono (m.2.trans a4.sub))).1 e hl
      have d4 : H4 p = some (.dK (vs.map fun p => ((Sum.inl p.1 : Key), p.2))) := by
        rw [a4.own p List.mem_cons_self, upd_same, merge_keys _ [] (by
          rw [List.map_nil, List.nil_append, List.map_map]
          have : ((fun x : Key × V => x.1) ∘ fun p : Int × V => ((Sum.inl p.1 : Key), p.2)) = fun p : Int × V => (Sum.inl p.1 : Key) := rfl
          rw [this]
          have e3 : (vs.map fun p : Int × V => (Sum.inl p.1 : Key)) = (vs.map (·.1)).map fun i => (Sum.inl i : Key) := by rw [List.map_map]; rfl
          rw [e3, kva.keys]
          exact nodup_inl nd), List.nil_append]
      refine ⟨p, v, rfl, by rw [← hv, ← look_val]; exact DGet.k (k := Sum.inl i) d4, ?_⟩
      have sb := hid_cons c p s.X H4
      refine f e k' hR v H4 (r4.show n1 n3 no) ⟨(((h.2.trans a2.sub).trans m.2).trans a4.sub).trans sb, fun a ha => ?_⟩ (hr.mono sb)
      have ne : a ≠ p := fun z => n1 (by rw [← z]; exact ha)
      rw [a4.own a (List.mem_cons_of_mem _ ha), upd_ne ne, a2.own a (List.mem_cons_of_mem _ ha), upd_ne ne]
theorem pdp_nil : PPs X pos [] [] ([] : List (TE × TE)) := pps_nil
theorem pdp_cons {z : Int} {jj : Nat} {p : Pos} {v : Expr} {t : DE} {ks : List (Option Expr)} {vs : List Expr} {trs : List (TE × TE)} (hv : PE X v (LE c t)) (hr : PPs X pos ks vs trs) : PPs X pos (some (.Constant (.int z) jj p) :: ks) (v :: vs) ((tC (.int z), LE c t) :: trs) := pps_cons pe_int hv hr
end
def D.tname : D → Option String
  | .non => some "NoneType"
  | .bl _ => some "bool"
  | .int _ => some "int"
  | .str _ => some "str"
  | .lst _ => some "list"
  | .tup _ => some "tuple"
  | .dic => some "dict"
  | .ins _ _ _ => none
  | .exc _ _ _ => none
abbrev dIsi (T : String) (t : DE) : DE := fun s Q => t s fun d k => ∃ n b, d.tname = some n ∧ kitB n T = some b ∧ Q (.bl b) k
abbrev dIsi2 (T U : String) (t : DE) : DE := fun s Q => t s fun d k => ∃ n a b, d.tname = some n ∧ kitB n T = some a ∧ kitB n U = some b ∧ Q (.bl (a || b)) k
theorem Rl.ty {K : Frag} {H : Hp} {v : V} {d : D} {n : String} (h : Rl K H v d) (e : d.tname = some n) : TyX K H v (.type n) := by
  cases h with
  | non => cases e; exact .base .non
  | bl b => cases e; exact .base (.bl b)
  | int i => cases e; exact .base (.int i)
  | str x => cases e; exact .base (.str x)
  | lst h _ => cases e; exact .base (.lst h)
  | tup h _ =>
    cases e
    rcases h with (h | ⟨o, h⟩) | ⟨o, its, m, h1, h2, _⟩
    · exact .base (.tup h)
    · exact .fTuple h
    · exact .kTuple h1 h2
  | dic h => cases e; exact .base (.dK h)
  | ins _ _ _ => cases e
  | exc _ _ _ _ => cases e
section
variable {X : Cx} {c : C} {pos p : Pos}
theorem pd_isi (hK : c.K = X.K) (hm : X.mg "isinstance" = none) {T : PySem.Str} {Tn : String} (hT : X.mg T = none) (hb : bootBuiltins T = some (.type Tn)) {e : Expr} {t : DE} {pt : Pos} (h : PE X e (LE c t)) (hg : Gl X "isinstance" := by rfl) (hgT : Gl X T := by rfl) (hnT : T ≠ "__name__" := by decide) (hdT : (T == ("__debug__" : PySem.Str)) = false := by decide)
    (hs : starEach [e, Expr.Name T pt] X.env = (false, eval e X.env) :: starEach [Expr.Name T pt] X.env := by rfl) (hs2 : starEach [Expr.Name T pt] X.env = (false, eval (Expr.Name T pt) X.env) :: starEach [] X.env := by rfl) (hp : (backTo pos (starEach [Expr.Name T pt] X.env)).any (·.1) = false := by rfl) :
    PE X (.Call (.Name "isinstance" p) [e, .Name T pt] [] pos) (LE c (dIsi Tn t)) :=
  (pe_callB call_isi hg hm PyProof.Rows.boot_isinstance (pa_cons h (pa_cons (pe_bltn (v := .ty Tn) hgT hT hb rfl hnT hdT) pa_nil hs2) hs) (he := hs) (hpl := hp)).weak fun σ H Q ⟨s, R, rp, q, f⟩ => ⟨s, _, rp, q, fun d k ⟨n, b, h1, h2, h3⟩ v H1 r1 a1 e1 =>
    ⟨v, _, _, _, b, rfl, .ty Tn, hK ▸ Rl.ty e1.all h1, kit_ty h2, f _ k h3 _ H1 r1 a1 (.bl _)⟩⟩
theorem pd_isi2 (hK : c.K = X.K) (hm : X.mg "isinstance" = none) {T U : PySem.Str} {Tn Un : String} (hT : X.mg T = none) (hU : X.mg U = none) (hb : bootBuiltins T = some (.type Tn)) (hbU : bootBuiltins U = some (.type Un)) {e : Expr} {t : DE} {pt pu ptt : Pos} {kk} (h : PE X e (LE c t)) (hg : Gl X "isinstance" := by rfl) (hgT : Gl X T := by rfl) (hgU : Gl X U := by rfl) (hnT : T ≠ "__name__" := by decide) (hdT : (T == ("__debug__" : PySem.Str)) = false := by decide) (hnU : U ≠ "__name__" := by decide) (hdU : (U == ("__debug__" : PySem.Str)) = false := by decide)
    (hsT : starEach [Expr.Name T pt, Expr.Name U pu] X.env = (false, eval (Expr.Name T pt) X.env) :: starEach [Expr.Name U pu] X.env := by rfl) (hsU : starEach [Expr.Name U pu] X.env = (false, eval (Expr.Name U pu) X.env) :: starEach [] X.env := by rfl)
    (hs : starEach [e, Expr.Tuple [Expr.Name T pt, Expr.Name U pu] kk ptt] X.env = (false, eval e X.env) :: starEach [Expr.Tuple [Expr.Name T pt, Expr.Name U pu] kk ptt] X.env := by rfl) (hs2 : starEach [Expr.Tuple [Expr.Name T pt, Expr.Name U pu] kk ptt] X.env = (false, eval (Expr.Tuple [Expr.Name T pt, Expr.Name U pu] kk ptt) X.env) :: starEach [] X.env := by rfl) (hp : (backTo pos (starEach [Expr.Tuple [Expr.Name T pt, Expr.Name U pu] kk ptt] X.env)).any (·.1) = false := by rfl) :
    PE X (.Call (.Name "isinstance" p) [e, .Tuple [.Name T pt, .Name U pu] kk ptt] [] pos) (LE c (dIsi2 Tn Un t)) :=
  (pe_callB call_isiT hg hm PyProof.Rows.boot_isinstance (pa_cons h (pa_cons (pe_tup (pa_cons (pe_bltn (v := .ty Tn) hgT hT hb rfl hnT hdT) (pa_cons (pe_bltn (v := .ty Un) hgU hU hbU rfl hnU hdU) pa_nil hsU) hsT)) pa_nil hs2) hs) (he := hs) (hpl := hp)).weak fun σ H Q ⟨s, R, rp, q, f⟩ => ⟨s, _, rp, q, fun d k ⟨n, a, b, h1, h2, h2', h3⟩ v H1 r1 a1 e1 => by
    refine ⟨by show 2 ≤ sizeLine; decide, fun tp hn => ?_⟩
    have nw := r1.new (o := .tup [.ty Tn, .ty Un]) hn
    refine ⟨v, tp, _, _, [.type Tn, .type Un], a || b, rfl, upd_same, .cons (.ty Tn) (.cons (.ty Un) .nil), hK ▸ Rl.ty (e1.mono nw.2.sub).all h1, ?_, f _ k h3 _ _ nw.1 (a1.trans nw.2) (.bl _)⟩
    refine kitAny_cons (kit_ty h2) (fun ha => ?_) (fun ha => by rw [ha]; rfl)
    rw [ha]
    exact kitAny_cons (kit_ty h2') (fun hb => by rw [hb]; exact kitAny_nil) (fun hb => by rw [hb]; rfl)⟩
end
end DL
namespace PySem
open Builtin
set_option maxHeartbeats 1000000 in
theorem enT_new {v : Value} {o : Obj} {Hh : Heap → Prop} (B : Begins v o Hh) : Meets (Builtin.«enumerate.__new__» ⟨[.type "enumerate", v], []⟩) (fun _ R s => Hh s.heap ∧
    R (.ok (.ret (.ref (s.heap.push o).objs.size))) { s with heap := (s.heap.push o).push { cls := .type "enumerate", data := .fields #[.none, .bool false, .ref s.heap.objs.size, rawInt 0, .none, .none] } }) := by
  refine .of_wp fun P' w' A' R s' hh => ?_
  obtain ⟨hp, gg, dd, tt, oo⟩ := s'
  obtain ⟨h0, hR⟩ := hh
  have sb := sub_enumerate
  have start : ∀ {A2 : Around} {E2 : Value → Shared → Prop} {Q2 : Value → Shared → Prop}, Q2 (.ref hp.objs.size) ⟨hp.push o, gg, dd, tt, oo⟩ → wpAny (model P' w') A2 (pyIter v) Q2 E2 ⟨hp, gg, dd, tt, oo⟩ := fun q => B.iter P' w' _ _ ⟨hp, gg, dd, tt, oo⟩ _ h0 q
  wp_walk using start
  refine wpAny_stack_any fun _ => wpAny_pure ?_
  split <;> first
    | (rename_i c _ _ _ _ _
       cases (c == Value.type "enumerate") <;> (wp_walk using start; exact ⟨_, rfl, hR⟩))
    | (wp_walk using start; exact ⟨_, rfl, hR⟩)
theorem enT_call {prog : Program} {w : World} {A : Around} {E : Value → Shared → Prop} {s : Shared} {v : Value} {o : Obj} {Hh : Heap → Prop} {Q : Value → Shared → Prop} (B : Begins v o Hh) (h0 : Hh s.heap)
    (fin : ∀ h', IsEnum h' (s.heap.objs.size + 1) s.heap.objs.size 0 .none → h'.get? s.heap.objs.size = some o → (∀ b u, s.heap.get? b = some u → h'.get? b = some u) → Q (.ref (s.heap.objs.size + 1)) { s with heap := h' }) :
    wpAny (model prog w) A (call (.type "enumerate") [v]) Q E s := by
  refine callType_new F.called_enumerate (by decide) (F.typeCall_enumerate_1 v) (F.newCall_enumerate_1 v) (fun obj => F.args_object_init_2 obj v) F.entry_enumerate_new (enT_new B) ⟨h0, ?_⟩
  have sz : (s.heap.push o).objs.size = s.heap.objs.size + 1 := Heap.size_push ..
  have en := Heap.get?_push_size (s.heap.push o) (o := { cls := .type "enumerate", data := .fields #[.none, .bool false, .ref s.heap.objs.size, rawInt 0, .none, .none] }) rfl
  rw [sz] at en
  refine ⟨⟨_, by rw [sz]; exact en, rfl⟩, ?_⟩
  rw [sz]
  exact fin _ en (Heap.get?_push_of_some _ (Heap.get?_push_size _ B.free)) fun b u e => Heap.get?_push_of_some _ (Heap.get?_push_of_some _ e)
end PySem
namespace DL
open PySem L2
open PySem.W (Frag)
def ItT (K : Frag) (a : Addr) : It :=
  ⟨fun i H => ∃ (xs : List V) (x : V), SqT K H a xs ∧ xs[i]? = some x,
   fun i H v H' => ∃ T x, v = .ref T ∧ H T = none ∧ H' = upd H T (.tup [.int (i : Nat), x]) ∧ ∀ xs, SqT K H a xs → xs[i]? = some x,
   fun i H => ∃ xs : List V, SqT K H a xs ∧ xs.length ≤ i⟩
theorem turn_enT {P : Program} {w : World} {K : Frag} {elts : List Expr} {kk : Nat} {tpos : Pos} (a e it : Addr) :
    Turn P w K (.Tuple elts kk tpos) (ItT K a) [e, it] e (fun i h => (∃ old, IsEnum h e it ((i : Nat) : Int) old) ∧ h.IsTupleIter it a i ∧ e ≠ it ∧ e ≠ a ∧ a ≠ it) where
  mem := List.mem_cons_self
  obj := fun i h ⟨⟨old, he⟩, ⟨o, ho, _, hd⟩, _⟩ b hb => by
    rcases List.mem_cons.mp hb with rfl | hb
    · exact ⟨_, he, fun v q => nomatch q⟩
    · rcases List.mem_cons.mp hb with rfl | hb
      · exact ⟨o, ho, fun v q => by rw [hd] at q; cases q⟩
      · cases hb
  keep := fun i h h' ⟨⟨old, he⟩, hi, hne⟩ k => ⟨⟨old, k e List.mem_cons_self _ he⟩, hi.at fun o q => k it (List.mem_cons_of_mem _ List.mem_cons_self) o q, hne⟩
  item := by
    intro X e1 e2 e3 hc i pins s σ H E I hf st hg
    subst e1 e2 e3
    obtain ⟨⟨old, he⟩, hit, ne1, ne2, ne3⟩ := st
    obtain ⟨xs, x, hq, hx⟩ := hg
    obtain ⟨its, rv, p, hz⟩ := I.tuple hq
    obtain ⟨u, hu, ru⟩ := rv.get hx
    have lt1 : e < s.heap.objs.size := Heap.lt_size he
    have lt2 : it < s.heap.objs.size := by obtain ⟨_, q, _⟩ := hit; exact Heap.lt_size q
    have hi : i < its.toArray.size := by rw [List.size_toArray]; exact (List.getElem?_eq_some_iff.mp hu).1
    have mem : ∀ b, b ∈ [e, it] → b = e ∨ b = it := fun b hb => by simpa using hb
    refine wpAny_pyNext_enum_itemD (Draws.tuple (A := X.A.in1) (show X.A.in1.handled = none from I.ok.hd hc) it a ne3 its.toArray) he ⟨hit, (show s.heap.IsTuple a its.toArray from p)⟩ hi ne1 (by simp [ne1, ne2]) fun y h' tk hy ho hst hT hsz hk => ?_
    have hy : y = u := by
      have : its.toArray[i]? = some u := by simpa using hu
      rw [this] at hy
      exact (Option.some.inj hy).symm
    subst hy
    refine ⟨_, rfl, wpAny_letOwnedTupleGo_enum (s := { s with heap := h', toks := tk + 1 }) ho fun h2 he2 sb => ?_⟩
    have kT : h2.get? s.heap.objs.size = some { cls := .type "tuple", data := .seq #[.int i tk, y] } := (sb.2 _ (Nat.ne_of_gt lt1)).trans hT
    have new : ObjOk X.prog X.w (upd H s.heap.objs.size (.tup [.int (i : Nat), x])) h2 s.heap.objs.size (.tup [.int (i : Nat), x]) :=
      ⟨by show 2 ≤ sizeLine; decide, [.int i tk, y], .cons ⟨_, rfl⟩ (.cons ru .nil), ⟨_, kT, rfl, _, rfl⟩⟩
    have I1 : Inv X pins σ (upd H s.heap.objs.size (.tup [.int (i : Nat), x])) { s with heap := h2, toks := tk + 1 } :=
      I.turnedNew (ch := [e, it]) (fun b ob hb q => (sb.2 b fun z => hb (by simp [z])).trans (hk b ob (fun z => hb (by simp [z])) (fun z => hb (by simp [z])) q)) hf (Nat.le_refl _) new
    refine ⟨.ref s.heap.objs.size, _, I1, rfl, ⟨_, x, rfl, I.hok.fresh (Nat.le_refl _), rfl, fun ys hy => by rw [I.tuple_inj hy hq]; exact hx⟩, ⟨⟨y, ?_⟩, hst.1.at fun o q => (sb.2 it (Ne.symm ne1)).trans q, ne1, ne2, ne3⟩, fun b hb => ?_⟩
    · have e1 : ((i + 1 : Nat) : Int) = (i : Int) + 1 := by omega
      rw [e1]
      exact he2
    · have hb' : b < s.heap.objs.size := by
        rcases mem b hb with rfl | rfl
        · exact lt1
        · exact lt2
      rw [upd_ne (Nat.ne_of_lt hb')]
      exact (hf b hb).1
  done := by
    intro X e1 e2 e3 hc i pins s σ H E I hf st hg
    subst e1 e2 e3
    obtain ⟨⟨old, he⟩, hit, ne1, ne2, ne3⟩ := st
    obtain ⟨xs, hq, hx⟩ := hg
    obtain ⟨its, rv, p, hz⟩ := I.tuple hq
    obtain ⟨f0, f1, f2, f3, f4, f5⟩ := hf it (List.mem_cons_of_mem _ List.mem_cons_self)
    have hl := rv.length
    have hh : X.A.in1.handled = none := I.ok.hd hc
    have no : its.toArray[i]? = none := by
      rw [List.getElem?_toArray, List.getElem?_eq_none_iff]
      omega
    have D' : Draws X.prog X.w X.A.in1 it [it, a] i (fun _ _ => False) (fun j h => j = i ∧ h.IsTupleIter it a i ∧ h.IsTuple a its.toArray) :=
      { live := fun _ _ st => let ⟨o, ho, _⟩ := st.2.1; ⟨o, ho⟩
        frame := fun _ _ _ st hk => ⟨st.1, st.2.1.at fun o e => hk it (by simp) o e, st.2.2.at fun o e => hk a (by simp) o e⟩
        item := fun j s Q E hj st _ => absurd st.1 (Nat.ne_of_lt hj)
        done := fun s Q E st hE => wpAny_nextOf_tuple_end hh st.2.1 st.2.2 no hE }
    exact wpAny_pyNext_enum_endD D' he ⟨rfl, hit, (show s.heap.IsTuple a its.toArray from p)⟩ fun h' eb => ⟨rfl, I.turned (t' := s.toks) (fun b o hb q => eb b o hb q) f0 f1 f3 f4 f5⟩
  self := fun A i s Q E st h => wpAny_pyIter_enum st.1.choose_spec h
theorem Yl.enT {c : C} {s0 : S} {Hs : Hp} {K : Frag} {a : Addr} {vs : List V} {ds : List D} (hK : c.K = K) (h : SqT c.K (c.hid s0.X Hs) a vs) (r : RlA c.K (c.hid s0.X Hs) vs ds) : Yl c s0 Hs (ItT K a) (enumD 0 ds) := fun i s σ H rp ad => by
  subst hK
  have h1 : SqT c.K H a vs := (ad.trans (wo_sub _ _)).st h
  have r1 := r.mono ad
  refine ⟨fun hl => ⟨vs, h1, by rw [r.len, ← enum_len ds 0]; exact hl⟩, fun d hd => ?_⟩
  obtain ⟨e, he, rfl⟩ := enum_at hd
  obtain ⟨v, hv, hr⟩ := r1.getD he
  refine ⟨⟨vs, v, h1, hv⟩, fun x H' ⟨T, y, e1, e2, e3, e4⟩ => ?_⟩
  subst e1 e3
  have e5 := e4 vs h1
  rw [hv] at e5
  cases e5
  rw [Nat.zero_add]
  exact Yl.pair rp e2 (.int _) hr
abbrev iEnS (t : DE) : DI := fun s Q => t s fun d k => ∃ ds, d.items = some ds ∧ Q (enumD 0 ds) k
section
variable {X : Cx} {c : C} {tg : Expr}
theorem pid_enumS (hK : c.K = X.K) {e : Expr} {t : DE} {p pos tpos : Pos} {elts : List Expr} {kk : Nat} (hm : X.mg "enumerate" = none) (h : PE X e (LE c t)) (hg : Gl X "enumerate" := by rfl) (hs : starEach [e] X.env = [(false, eval e X.env)] := by rfl) :
    PI X (.Tuple elts kk tpos) (.Call (.Name "enumerate" p) [e] [] pos) (LI c (iEnS t)) := by
  refine ⟨fun pins s σ H R I ⟨st, Z, rp, q, f⟩ => ?_⟩
  refine PyProof.Rows.Call_ (ld_blt I hg hm PyProof.Rows.boot_enumerate (PyProof.Rows.callWith_type1 (thn ((pad_cons h pad_nil hs).run pos pins s σ H (fun vs H1 => ∃ v d k ds, vs = [v] ∧ d.items = some ds ∧ Z (enumD 0 ds) k ∧ Rep c (st.at k) σ H1 ∧ AdvE c st.X H H1 ∧ Rl c.K (c.hid st.X H1) v d) I
    ⟨st, fun ds k => (match ds with | [d] => ∃ ds, d.items = some ds ∧ Z (enumD 0 ds) k | _ => False), rp, q, fun ds k hq vs H1 r1 a1 e1 => by
      cases e1 with
      | nil => exact hq.elim
      | cons e1 e2 =>
        cases e2 with
        | cons _ _ => exact hq.elim
        | nil =>
          obtain ⟨ds, h1, h2⟩ := hq
          exact ⟨_, _, k, ds, rfl, h1, h2, r1, a1, e1⟩⟩) fun us s1 ⟨vs, H1, I1, r1, v, d, k, ds, ev, hd, hz, rp1, a1, e1⟩ => ?_) hs rfl))
  subst ev
  cases r1 with
  | cons rv rr =>
    cases rr
    have fresh : ∀ b, s1.heap.objs.size ≤ b → H1 b = none := fun b hb => I1.hok.fresh hb
    cases d <;> first | cases hd | skip
    · obtain ⟨a, ws, rfl, h1, r⟩ := e1.lstE
      cases (show _ = Value.ref a from rv)
      have h1' : SqL X.K H1 a ws := SqL.of (wo_sub _ _ _ _ h1)
      obtain ⟨its, rv', p', hz'⟩ := I1.list h1'
      refine enT_call (begins_list a its.toArray) p'.isList fun h' he ho hk => wpAny_pyIter_enum he ?_
      have I2 : Inv X pins σ H1 { s1 with heap := h' } := I1.kept (t' := s1.toks) hk
      refine ⟨_, [s1.heap.objs.size + 1, s1.heap.objs.size], _, _, H1, rfl, I2, turn_enum a (s1.heap.objs.size + 1) s1.heap.objs.size, ⟨⟨.none, he⟩, ⟨_, ho, rfl, rfl⟩, Nat.succ_ne_self _⟩, fun b hb => ?_, f _ k hz _ H1 rp1 a1 (Yl.enum hK h1 r)⟩
      have hle : s1.heap.objs.size ≤ b := by
        rcases (by simpa using hb : b = s1.heap.objs.size + 1 ∨ b = s1.heap.objs.size) with z | z
        · rw [z]; exact Nat.le_succ _
        · rw [z]; exact Nat.le_refl _
      exact I1.fpOk hle (fresh b hle)
    · obtain ⟨a, ws, rfl, h1, r⟩ := e1.tupE
      cases (show _ = Value.ref a from rv)
      have h1' : SqT X.K H1 a ws := hK ▸ (wo_sub _ _).st h1
      obtain ⟨its, rv', p', hz'⟩ := I1.tuple h1'
      have lt : a < s1.heap.objs.size := p'.lt
      refine enT_call (begins_tuple a its.toArray) (show s1.heap.IsTuple a its.toArray from p') fun h' he ho hk => wpAny_pyIter_enum he ?_
      have I2 : Inv X pins σ H1 { s1 with heap := h' } := I1.kept (t' := s1.toks) hk
      refine ⟨_, [s1.heap.objs.size + 1, s1.heap.objs.size], _, _, H1, rfl, I2, turn_enT a (s1.heap.objs.size + 1) s1.heap.objs.size, ⟨⟨.none, he⟩, ⟨_, ho, rfl, rfl⟩, Nat.succ_ne_self _, Nat.ne_of_gt (Nat.lt_succ_of_lt lt), Nat.ne_of_lt lt⟩, fun b hb => ?_, f _ k hz _ H1 rp1 a1 (Yl.enT hK h1 r)⟩
      have hle : s1.heap.objs.size ≤ b := by
        rcases (by simpa using hb : b = s1.heap.objs.size + 1 ∨ b = s1.heap.objs.size) with z | z
        · rw [z]; exact Nat.le_succ _
        · rw [z]; exact Nat.le_refl _
      exact I1.fpOk hle (fresh b hle)
end
end DL
namespace DL
open PySem L2
open PySem.W (Frag)
abbrev iScr (i : Nat) : DI := fun s Q => ∃ ns : List Int, s.sl[i]? = some (.scr ns) ∧ Q (ns.map .int) s.k
abbrev iScE (i : Nat) : DI := fun s Q => ∃ ns : List Int, s.sl[i]? = some (.scr ns) ∧ Q (enumD 0 (ns.map .int)) s.k
theorem Yl.scr {c : C} {s0 : S} {Hs : Hp} {K : Frag} {a : Addr} {vs : List V} {ds : List D} (hK : c.K = K) (h : SqL c.K (c.hid s0.X Hs) a vs) (r : RlA c.K (c.hid s0.X Hs) vs ds) : Yl c s0 Hs (Itl K a) ds := fun i s σ H rp ad => by
  have h1 : SqL K H a vs := hK ▸ (ad.trans (wo_sub _ _)).sl h
  have r1 := r.mono ad
  refine ⟨fun hl => ⟨vs, h1, by rw [r.len]; exact hl⟩, fun d hd => ?_⟩
  obtain ⟨v, hv, hr⟩ := r1.getD hd
  refine ⟨⟨vs, v, h1, hv⟩, fun x H' ⟨e1, e2⟩ => ?_⟩
  subst e1
  have e3 := e2 vs h1
  rw [hv] at e3
  cases e3
  exact ⟨rp, AdvE.refl, hr⟩
theorem Yl.scrE {c : C} {s0 : S} {Hs : Hp} {K : Frag} {a : Addr} {vs : List V} {ds : List D} (hK : c.K = K) (h : SqL c.K (c.hid s0.X Hs) a vs) (r : RlA c.K (c.hid s0.X Hs) vs ds) : Yl c s0 Hs (Ite K a) (enumD 0 ds) := fun i s σ H rp ad => by
  have h1 : SqL K H a vs := hK ▸ (ad.trans (wo_sub _ _)).sl h
  have r1 := r.mono ad
  refine ⟨fun hl => ⟨vs, h1, by rw [r.len, ← enum_len ds 0]; exact hl⟩, fun d hd => ?_⟩
  obtain ⟨e, he, rfl⟩ := enum_at hd
  obtain ⟨v, hv, hr⟩ := r1.getD he
  refine ⟨⟨vs, v, h1, hv⟩, fun x H' ⟨T, y, e1, e2, e3, e4⟩ => ?_⟩
  subst e1 e3
  have e5 := e4 vs h1
  rw [hv] at e5
  cases e5
  rw [Nat.zero_add]
  exact Yl.pair rp e2 (.int _) hr
section
variable {X : Cx} {c : C} {tg : Expr}
theorem pid_scr (hK : c.K = X.K) (i : Nat) {x : PySem.Str} {pn : Pos} (hN : X.N[i]? = some x := by rfl) (hv : Vis X.env.scope x := by first | exact Or.inl rfl | exact Or.inr (Or.inl rfl) | exact Or.inr (Or.inr rfl)) (hd : (x == ("__debug__" : PySem.Str)) = false := by decide) (hcd : (x == ("__classdict__" : PySem.Str)) = false := by decide) :
    PI X tg (.Name x pn) (LI c (iScr i)) :=
  PI.weak (pi_list (pe_var hN hv hd hcd)) fun σ H R ⟨s, Z, rp, ⟨ns, hs, hz⟩, f⟩ => by
    obtain ⟨a, e, h⟩ := rp.slot i _ hs
    exact ⟨_, e, a, rfl, ⟨_, hK ▸ (wo_sub _ _).sl h⟩, f _ s.k hz _ H rp AdvE.refl (Yl.scr hK h (RlA.ints ns))⟩
theorem pid_scrE (hK : c.K = X.K) (i : Nat) {x : PySem.Str} {pn p pos tpos : Pos} {elts : List Expr} {kk : Nat} (hm : X.mg "enumerate" = none) (hN : X.N[i]? = some x := by rfl) (hv : Vis X.env.scope x := by first | exact Or.inl rfl | exact Or.inr (Or.inl rfl) | exact Or.inr (Or.inr rfl)) (hd : (x == ("__debug__" : PySem.Str)) = false := by decide) (hcd : (x == ("__classdict__" : PySem.Str)) = false := by decide)
    (hg : Gl X "enumerate" := by rfl) (hs : starEach [Expr.Name x pn] X.env = [(false, eval (Expr.Name x pn) X.env)] := by rfl) : PI X (.Tuple elts kk tpos) (.Call (.Name "enumerate" p) [.Name x pn] [] pos) (LI c (iScE i)) :=
  PI.weak (pi_enum hg hm (pa_cons (pe_var hN hv hd hcd) pa_nil hs) hs) fun σ H R ⟨s, Z, rp, ⟨ns, hs, hz⟩, f⟩ => by
    obtain ⟨a, e, h⟩ := rp.slot i _ hs
    exact ⟨_, e, a, _, rfl, hK ▸ (wo_sub _ _).sl h, f _ s.k hz _ H rp AdvE.refl (Yl.scrE hK h (RlA.ints ns))⟩
end
def spS (K : Frag) (sp : List Int → (D → Prop) → Prop) : Sp := fun vs H Q _ => ∃ (a : Addr) (ns : List Int) (R : D → Prop), vs = [.ref a] ∧ SqL K H a (ns.map V.int) ∧ sp ns R ∧ ∀ d, R d → ∀ v H', Sub (wo H []) (wo H' []) → TbK H H' → Rl K H' v d → Q v H'
theorem Sub.out {A B : Hp} (s : Sub (wo A []) (wo B [])) {b : Addr} {o : HO} (h : A b = some o) (n : NoTb o := by intro _ z; cases z) : B b = some o := (wo_ne (s b o (wo_of (by simp) h n))).2
theorem sl_in {K : Frag} {A : Hp} {a : Addr} {vs : List V} (h : SqL K A a vs) : SqL K (wo A []) a vs := by
  rcases h with (h | ⟨o, h⟩) | h
  · exact .inl (.inl (wo_of (by simp) h))
  · exact .inl (.inr ⟨o, wo_of (by simp) h⟩)
  · exact .inr h
section
variable {P : Program} {w : World} {K : Frag} {mg : PySem.Str → Option Value} {base : Heap}
theorem okS {x qual : PySem.Str} {st : Stmt} {f : Addr} {fd : FuncData} {N : List PySem.Str} {y : PySem.Str} {k : Nat} {sp : List Int → (D → Prop) → Prop} (F : Fun K x qual st f fd) (Sc : FnScope N [y] (defScope st)) (ow : List Nat)
    (body : ∃ t : DS, (∀ (cdv : Value) (A : Around) (outer : List Env) (s : Shared) (H : Hp) (E : XK), Room k (A.deeper (PyProof.Rows.envOfC qual (defScope st) s.heap.objs.size f cdv)) →
        PSs (cxOf CX0 P w K mg base N qual (defScope st) f cdv A outer s H E).nox (defBody st) (LS ⟨K, none, [], H, ow⟩ t)) ∧
      ∀ ns R, sp ns R → t { nx := fun _ => R .non, rt := fun d _ => R d } ⟨[], .scr ns :: List.replicate (N.length - 1) .no, 0⟩) :
    FnOk P w K mg base CX0 (k + 1) f fd [y] (spS K sp) := by
  obtain ⟨t, hb, hr⟩ := body
  refine F.ok Sc (fun vs H Q E ⟨a, ns, R, h, _⟩ => by rw [h]; rfl) fun cdv A outer s H vs Q E room h => ?_
  obtain ⟨a, ns, R, rfl, ha, hsp, fin⟩ := h
  refine ⟨LS ⟨K, none, [], H, ow⟩ t, hb cdv A outer s H E room, ⟨[], .scr ns :: List.replicate (N.length - 1) .no, 0⟩, _, ?_, hr ns R hsp, ?_⟩
  · refine ⟨Sub.refl _, fun _ h => (nomatch h), fun _ h => h, fun _ h => (nomatch h), fun _ h => (nomatch h), trivial, fun i z e => ?_, fun i j p q ds es e _ _ => ?_, ?_, .refl, fun _ h => (nomatch h)⟩
    · cases i with
      | zero =>
        obtain rfl : Sl.scr ns = z := Option.some.inj e
        exact ⟨a, start_get rfl, sl_in ha⟩
      | succ i =>
        have e : (List.replicate (N.length - 1) Sl.no)[i]? = some z := e
        rw [List.getElem?_replicate] at e
        split at e
        · cases e; trivial
        · cases e
    · have e : (Sl.scr ns :: List.replicate (N.length - 1) Sl.no)[i]? = some (.own p ds) := e
      have mem := List.mem_of_getElem? e
      simp at mem
    · have : 1 ≤ N.length := by have := congrArg List.length Sc.pre; rw [List.length_take] at this; simp at this; omega
      show (Sl.scr ns :: List.replicate (N.length - 1) Sl.no).length = (L2.start N [.ref a]).length
      unfold L2.start
      simp
      
  · have go : ∀ d v H', Sub (wo H []) (wo H' []) → TbK H H' → Rl K (wo H' []) v d → R d → Q v H' := fun d v H' sb tb e r => fin d r v H' sb tb (e.mono (wo_sub _ _))
    exact ⟨fun s' σ' H' r _ q => go .non .non H' (r.sub.trans r.sub0) r.tb .non q, fun _ _ _ _ _ q => q, fun _ _ _ _ _ q => q, fun d k v H' fi e r => go d v H' fi.sub fi.tb e r⟩
end
end DL
namespace DL
open PySem L2
open PySem.W (Frag)
abbrev fldD {α : Type} (ns : List PySem.Str) (xs : List α) (f : PySem.Str) : Option α := (ns.zip xs).lookup f
theorem fld_rl {K : Frag} {H : Hp} {f : PySem.Str} : ∀ {ns : List PySem.Str} {vs : List V} {ds : List D} {d : D}, RlA K H vs ds → fldD ns ds f = some d → ∃ v, fldD ns vs f = some v ∧ Rl K H v d
  | [], _, _, _, _, h => by simp [fldD] at h
  | n :: ns, _, _, _, .nil, h => by simp [fldD] at h
  | n :: ns, v :: vs, d' :: ds, d, .cons r q, h => by
    unfold fldD at h ⊢
    rw [List.zip_cons_cons, List.lookup_cons] at h ⊢
    cases e : (f == n) with
    | true => rw [e] at h; cases h; exact ⟨v, rfl, r⟩
    | false => rw [e] at h; exact fld_rl q h
theorem Rl.insE {K : Frag} {H : Hp} {v : V} {C : Addr} {ns : List PySem.Str} {ds : List D} (h : Rl K H v (.ins C ns ds)) : ∃ a dx vs, v = .ref a ∧ H a = some (.ins C dx (ns.zip vs)) ∧ ns.length = vs.length ∧ RlA K H vs ds := by
  cases h with
  | ins h l r => exact ⟨_, _, _, rfl, h, l, r⟩
abbrev dFld (C : Addr) (f : PySem.Str) (t : DE) : DE := fun s Q => t s fun d k => ∃ ns xs e, d = .ins C ns xs ∧ fldD ns xs f = some e ∧ Q e k
section
variable {X : Cx} {c : C} {pos p : Pos} {e : Expr} {t : DE}
theorem pd_fld (hK : c.K = X.K) {C : Addr} {f : PySem.Str} (hC : Cls X.K C) (hn : NoAttr X.K C f) (ha : PE X e (LE c t)) (hb : attributeBase e f X.env (eval e X.env) = eval e X.env := by rfl) : PE X (.Attribute e f pos) (LE c (dFld C f t)) :=
  (pe_fld ha hb).weak fun σ H Q ⟨s, R, rp, q, fn⟩ => ⟨s, _, rp, q, fun d k ⟨ns, xs, e', hd, he, hR⟩ v H1 r1 a1 e1 => by
    subst hd
    obtain ⟨a, dx, vs, rfl, h1, l, r⟩ := e1.insE
    obtain ⟨u, h2, h3⟩ := fld_rl r he
    exact ⟨a, C, dx, _, u, rfl, wo_sub _ _ _ _ h1, hC, hn, h2, fn e' k hR u H1 r1 a1 h3⟩⟩
end
section
variable {X : Cx}
theorem call_lenO {C f : Addr} {fd : FuncData} {ps : List PySem.Str} {sp : Sp} {k : Nat} (hm : Meth X.K C "__len__" f) (F : FnOk X.prog X.w X.K X.mg X.base CX0 k f fd ps sp) (hr : Room (k + 1) X.A) (hb : Binds X.K fd ps []) :
    CallR X (.builtin "len") (fun xs H Q => ∃ a dx fs, xs = [.ref a] ∧ H a = some (.ins C dx fs) ∧ sp [.ref a] H (fun v H' => ∃ n : Nat, v = .int n ∧ n < 2 ^ 63 ∧ Q (.int n) H') E0) := by
  intro pins s σ H xs us Q I r ⟨a, dx, fs, hx, ea, h⟩
  subst hx
  obtain ⟨u, rfl, rx⟩ := vals1 r
  obtain rfl : u = Value.ref a := rx
  obtain ⟨mA, O, _, _, _, _⟩ := ins_get I.hok ea
  obtain ⟨od, J, _⟩ := O.look
  refine Calls.call_function_entry kind_len plain_len entry_len (args_len1 _) ?_
  unfold Builtin.«len»
  refine wpAny_bind (wpAny_pure ?_)
  refine wpAny_bind (PySem.W.special_fn I.kIn J hm.at_ (beq_iff_eq.mp hm.fn) ?_)
  have hl : ([Value.ref a] ++ []).length = ps.length := F.len _ _ _ _ h
  refine wpAny_call (codeAny_mono (F.run X.A.in1 X.stack s H ⟨[.ref a], []⟩ [.ref a] [.ref a] _ E0 hr.in1 I.env0.in1 (hb s [.ref a] I.kIn hl) (.cons rfl .nil) h) fun r s' hq => ?_)
  cases r with
  | error e => exact hq.elim
  | ok fl =>
    cases fl with
    | next => exact hq.elim
    | brk => exact hq.elim
    | cont => exact hq.elim
    | ret u =>
      obtain ⟨v, H', I', rv, n, rfl, hn, hQ⟩ := I.after hq
      obtain ⟨t, rfl⟩ := rv
      refine wpAny_bind (wpAny_holding (wpAny_pure ?_))
      refine wpAny_bind (wpAny_letGo ?_)
      show wpAny _ _ (if (n : Int) < 0 then _ else _) _ _ _
      rw [if_neg (by omega)]
      show wpAny _ _ (if (n : Int) ≥ 2 ^ 63 then _ else _) _ _ _
      rw [if_neg (by omega)]
      exact wpAny_bind (wpAny_mkInt (wpAny_pure ⟨_, rfl, .int n, H', I'.tok _, ⟨_, rfl⟩, hQ⟩))
end
structure LenD (P : Program) (w : World) (K : Frag) (mg : PySem.Str → Option Value) (base : Heap) (k : Nat) (C : Addr) (sp : DSp) : Prop where
  ex : ∃ f fd ps, Meth K C "__len__" f ∧ FnOk P w K mg base CX0 k f fd ps (spD K false sp) ∧ Binds K fd ps []
abbrev dLenO (C : Addr) (sp : DSp) (t : DE) : DE := fun s Q => t s fun d k => (∃ ns xs, d = .ins C ns xs) ∧ sp [d] 0 fun r _ => ∃ n : Nat, r = .int n ∧ n < 2 ^ 63 ∧ Q (.int n) k
section
variable {X : Cx} {c : C} {k j : Nat} {p pos : Pos} {e : Expr} {t : DE} {Cl : Addr} {sp : DSp}
theorem pd_lenO (hK : c.K = X.K) (hm : X.mg "len" = none) (L : LenD X.prog X.w X.K X.mg X.base k Cl sp) (hr : Room j X.A) (hk : k + 1 ≤ j) (he : PE X e (LE c t)) (hg : Gl X "len" := by rfl) (hs : starEach [e] X.env = (false, eval e X.env) :: starEach [] X.env := by rfl) (hpl : (backTo pos (starEach [] X.env)).any (·.1) = false := by rfl) :
    PE X (.Call (.Name "len" p) [e] [] pos) (LE c (dLenO Cl sp t)) := by
  obtain ⟨f, fd, ps, M, F, B⟩ := L.ex
  refine (pe_callB (call_lenO M F (hr.mono hk) B) hg hm PySem.boot_len (pa_cons he pa_nil hs) (he := hs) (hpl := hpl)).weak fun σ H Q ⟨s, R, rp, q, fn⟩ => ⟨s, _, rp, q, fun d k1 ⟨⟨ns, xs, hd⟩, hsp⟩ v H1 r1 a1 e1 => ?_⟩
  subst hd
  obtain ⟨a, dx, us, rfl, h1, l, r⟩ := e1.insE
  refine ⟨a, dx, _, rfl, wo_sub _ _ _ _ h1, ?_⟩
  refine ⟨none, Ml c.M ++ s.X, 0, _, _, _, ⟨rfl, rfl⟩, ⟨fun a _ => by simp [Ml], r1.allHid, trivial, hK ▸ RlA.cons e1 .nil, r1.allTb⟩, hsp, fun d k' ⟨n, hd, hn, hR⟩ v H' af er => ?_⟩
  subst hd
  cases er.intE
  have z := Rep.after (s := s.at k1) r1 ⟨af.sub, af.old, af.m, af.tb⟩
  exact ⟨n, rfl, hn, fn _ k1 hR _ H' z.1 (a1.trans z.2) (.int _)⟩
end
def spI (K : Frag) (C : Addr) (sp : DSp) : Sp := fun vs H Q _ => ∃ (X0 : List Addr) (x dx : Addr) (ds : List D) (ws : List V) (R : D → Nat → Prop), vs = .ref x :: ws ∧ H x = some (.ins C dx []) ∧ H dx = some (.own x) ∧ dx ≠ x ∧ (∀ a ∈ X0, H a ≠ none) ∧ (∀ a ∈ X0, ∀ ps, H a ≠ some (.tbl ps)) ∧ x ∉ X0 ∧ dx ∉ X0 ∧
  RlA K (wo H (x :: X0)) ws ds ∧ sp ds 0 R ∧ ∀ d k', R d k' → ∀ H', Sub (wo H (x :: X0)) (wo H' X0) → (∀ a ∈ X0, H' a = H a) → TbK H H' → Rl K (wo H' X0) (.ref x) d → Q .non H'
structure MakD (P : Program) (w : World) (K : Frag) (mg : PySem.Str → Option Value) (base : Heap) (k : Nat) (x : PySem.Str) (C : Addr) (sp : DSp) : Prop where
  ex : ∃ f fd ps, Mk K C f ∧ FnOk P w K mg base CX0 k f fd ps (spI K C sp) ∧ mg x = some (.ref C) ∧ Binds K fd ps []
section
variable {X : Cx} {c : C} {k j : Nat} {p pos : Pos} {e : Expr} {es : List Expr} {t : DA} {Cl : Addr} {x : PySem.Str} {sp : DSp}
theorem pd_make (hK : c.K = X.K) (F : MakD X.prog X.w X.K X.mg X.base k x Cl sp) (hr : Room j X.A) (hk : k + 1 ≤ j) (ha : PA X (e :: es) (LA c t)) (hg : Gl X x := by rfl) (hdb : (x == ("__debug__" : PySem.Str)) = false := by decide) (he : starEach (e :: es) X.env = (false, eval e X.env) :: starEach es X.env := by rfl) (hpl : (backTo pos (starEach es X.env)).any (·.1) = false := by rfl) :
    PE X (.Call (.Name x p) (e :: es) [] pos) (LE c (dCall sp t)) := by
  obtain ⟨f, fd, ps, M, G, hm, b⟩ := F.ex
  refine (pe_make M G (hr.mono hk) hg hm b .nil pass0 ha hdb he hpl).weak fun σ H Q ⟨s, R, rp, q, fn⟩ => ⟨s, _, rp, q, fun ds k1 h1 vs H1 r1 a1 e1 y dx hy hd ne => ?_⟩
  have al := r1.allHid
  have ny : y ∉ Ml c.M ++ s.X := fun z => al y z hy
  have nd : dx ∉ Ml c.M ++ s.X := fun z => al dx z hd
  have sb : Sub (wo H1 (Ml c.M ++ s.X)) (wo (upd (upd H1 dx (.own y)) y (.ins Cl dx [])) (y :: (Ml c.M ++ s.X))) := fun a o h => by
    obtain ⟨n, h⟩ := wo_ne h
    have n1 : a ≠ y := fun z => by rw [z, hy] at h; cases h
    have n2 : a ≠ dx := fun z => by rw [z, hd] at h; cases h
    exact wo_of (fun z => (List.mem_cons.mp z).elim n1 n) (by rw [upd_ne n1, upd_ne n2]; exact h)
  have od : ∀ a ∈ Ml c.M ++ s.X, (upd (upd H1 dx (.own y)) y (.ins Cl dx [])) a = H1 a := fun a h => by
    rw [upd_ne (fun z => ny (by rw [← z]; exact h)), upd_ne (fun z => nd (by rw [← z]; exact h))]
  refine ⟨Ml c.M ++ s.X, y, dx, ds, vs, _, by rw [List.append_nil], upd_same, by rw [upd_ne ne]; exact upd_same, ne, fun a h => by rw [od a h]; exact al a h, fun a h => by rw [od a h]; exact r1.allTb a h, ny, nd, (hK ▸ e1 : RlA X.K _ vs ds).mono sb, h1, fun d k' hR H' s2 o2 tb er => ⟨rfl, ?_⟩⟩
  have z := Rep.after (s := s.at k1) r1 (H' := H') (k := 0) ⟨sb.trans s2, fun a h => (o2 a h).trans (od a h), trivial, (TbK.new hd).trans ((TbK.new (by rw [upd_ne ne.symm]; exact hy)).trans tb)⟩
  exact fn d k1 hR _ H' z.1 (a1.trans z.2) (hK ▸ er)
end
end DL
namespace DL
open PySem L2
open PySem.W (Frag)
end DL
namespace DL
open PySem L2
open PySem.W (Frag)
end DL
namespace L2G
open PySem PySem.Spec PyProof.Rows L2
structure FnG (P : Program) (w : World) (K : PySem.W.Frag) (mg : Str → Option Value) (base : Heap) (k : Nat) (f : Addr) (fd : FuncData) (ps : List Str) (sp : Sp) : Prop where
  len : ∀ vs H Q E, sp vs H Q E → vs.length = ps.length
  run : ∀ (A : Around) (ou : List Env) (s : Shared) (H : Hp) (ar : Args) (us : List Value) (vs : List V) (Q : VK) (E : XK), Room k A → A.guards = some [] → Env0 P w K mg base A ou s H → BindsTo s fd ar (ps.zip us) → Vals vs us → sp vs H Q E →
    codeAny (model P w) A (.call (.ref f) ar) (CR CX0 ou P w H s Q E) s
section
variable {P : Program} {w : World} {K : PySem.W.Frag} {mg : Str → Option Value} {base : Heap}
theorem FnG.of {k : Nat} {f : Addr} {fd : FuncData} {ps : List Str} {sp : Sp} (F : FnOk P w K mg base CX0 k f fd ps sp) : FnG P w K mg base k f fd ps sp :=
  ⟨F.len, fun A ou s H ar us vs Q E r _ e b v h => F.run A ou s H ar us vs Q E r e b v h⟩
end
end L2G
namespace DL
open PySem L2 L2G
open PySem.W (Frag)
mutual
def D.wg : D → Nat
  | .non => 4
  | .bl _ => 5
  | .int _ => 1921
  | .str x => (reprText x).length
  | .lst xs => wgA xs + 2
  | .tup xs => wgA xs + 4
  | .dic => 2
  | .ins _ _ _ => 0
  | .exc _ _ _ => 0
def wgA : List D → Nat
  | [] => 0
  | d :: r => D.wg d + 2 + wgA r
end
mutual
def D.shw : D → Bool
  | .non => true
  | .bl _ => true
  | .int i => decide (i.natAbs.log2 < 1920)
  | .str _ => true
  | .lst xs => shwA xs
  | .tup xs => shwA xs
  | .dic => true
  | .ins _ _ _ => false
  | .exc _ _ _ => false
def shwA : List D → Bool
  | [] => true
  | d :: r => D.shw d && shwA r
end
theorem textFrom_up : ∀ (ts : List PySem.Str) (k : Nat) (acc : PySem.Str), (textFrom k acc ts).length ≤ acc.length + piled ts
  | [], _, acc => Nat.le_add_right _ _
  | t :: r, k, acc => by
    have ih := textFrom_up r (k + 1) (acc ++ (if k > 0 then ", " else "" : String) ++ t)
    have e : (acc ++ (if k > 0 then ", " else "" : String) ++ t).length = acc.length + (if k > 0 then 2 else 0) + t.length := by
      rw [strLen_append, strLen_append]
      split <;> rfl
    rw [e] at ih
    rw [piled_cons]
    show (textFrom (k + 1) _ r).length ≤ _
    have : (if k > 0 then 2 else 0 : Nat) ≤ 2 := by split <;> omega
    omega
theorem listText_up (ts : List PySem.Str) : (listText ts).length ≤ piled ts + 2 := by
  unfold listText
  rw [strLen_append]
  have := textFrom_up ts 0 "["
  have e1 : (("[" : String) : PySem.Str).length = 1 := rfl
  have e2 : (("]" : String) : PySem.Str).length = 1 := rfl
  rw [e1] at this
  rw [e2]
  omega
theorem tupleText_up (ts : List PySem.Str) : (tupleText ts).length ≤ piled ts + 4 := by
  unfold tupleText
  rw [strLen_append, strLen_append]
  have e1 : ((("(" : String) : PySem.Str)).length = 1 := rfl
  have e3 : (((if ts.length == 1 then ",)" else ")" : String) : PySem.Str)).length ≤ 2 := by split <;> decide
  rw [e1]
  cases ts with
  | nil => show 1 + 0 + _ ≤ _; omega
  | cons t r =>
    have := join_length_add (t :: r) (by simp)
    omega
mutual
theorem shown_up : ∀ d : D, d.plain = true → d.shw = true → d.py.shown.length ≤ d.wg ∧ d.py.showable = true ∧ d.py.hasDict = false
  | .non, _, _ => ⟨by decide, rfl, rfl⟩
  | .bl b, _, _ => ⟨by cases b <;> decide, rfl, rfl⟩
  | .int i, _, h => ⟨PyProof.Rows.int_text_len_1921 (of_decide_eq_true h), h, rfl⟩
  | .str x, _, _ => ⟨Nat.le_refl _, rfl, rfl⟩
  | .lst xs, p, h => by
    obtain ⟨h1, h2, h3⟩ := shownA_up xs p h
    refine ⟨?_, h2, h3⟩
    show (listText (PyData.shownAll (pyA xs))).length ≤ wgA xs + 2
    have := listText_up (PyData.shownAll (pyA xs))
    omega
  | .tup xs, p, h => by
    obtain ⟨h1, h2, h3⟩ := shownA_up xs p h
    refine ⟨?_, h2, h3⟩
    show (tupleText (PyData.shownAll (pyA xs))).length ≤ wgA xs + 4
    have := tupleText_up (PyData.shownAll (pyA xs))
    omega
  | .dic, p, _ => by cases p
  | .ins _ _ _, p, _ => by cases p
  | .exc _ _ _, p, _ => by cases p
theorem shownA_up : ∀ ds : List D, plainA ds = true → shwA ds = true → piled (PyData.shownAll (pyA ds)) ≤ wgA ds ∧ PyData.showableAll (pyA ds) = true ∧ PyData.hasDictAll (pyA ds) = false
  | [], _, _ => ⟨Nat.le_refl _, rfl, rfl⟩
  | d :: r, p, h => by
    obtain ⟨p1, p2⟩ := Bool.and_eq_true_iff.mp (show (D.plain d && plainA r) = true from p)
    obtain ⟨h1, h2⟩ := Bool.and_eq_true_iff.mp (show (D.shw d && shwA r) = true from h)
    obtain ⟨a1, a2, a3⟩ := shown_up d p1 h1
    obtain ⟨b1, b2, b3⟩ := shownA_up r p2 h2
    refine ⟨?_, ?_, ?_⟩
    · show piled (d.py.shown :: PyData.shownAll (pyA r)) ≤ D.wg d + 2 + wgA r
      rw [piled_cons]
      omega
    · show (d.py.showable && PyData.showableAll (pyA r)) = true
      rw [a2, b2]; rfl
    · show (d.py.hasDict || PyData.hasDictAll (pyA r)) = false
      rw [a3, b3]; rfl
end
structure Shw (d : D) : Prop where
  plain : d.plain = true
  shw : d.shw = true
  dep : d.py.depth ≤ 60
  wg : d.wg ≤ sizeLine
abbrev dRepD (t : DE) : DE := fun s Q => t s fun d k => (match d with | .lst _ => True | .tup _ => True | _ => False) ∧ Shw d ∧ Q (.str d.py.shown) k
section
variable {X : Cx} {c : C} {p pos : Pos}
theorem call_reprD (gu : X.A.guards = some []) (hu : X.A.units + 64 < cLine) : CallR X (.builtin "repr") (fun xs H Q => ∃ (a : Addr) (d : PyData), xs = [.ref a] ∧ Dp X.K H (.ref a) d ∧ d.showable = true ∧ d.hasDict = false ∧ d.depth ≤ 60 ∧ d.shown.length ≤ sizeLine ∧ Q (.str d.shown) H) := by
  intro pins s σ H xs us Q I r ⟨a, d, e, dp, h1, h2, h3, h4, q⟩
  subst e
  obtain ⟨u, rfl, ru⟩ := vals1 r
  obtain ⟨as, rd⟩ := Dp.reads I d _ u dp ru
  obtain rfl : u = Value.ref a := ru
  exact repr_of_reads' rd h1 (fun e => by rw [h2] at e; cases e) gu (by omega) (fun _ _ e => e) (fun h' u tk k => ⟨.str d.shown, H, I.kept k, ⟨u, rfl⟩, q⟩) h4
theorem pd_reprD (hK : c.K = X.K) (gu : X.A.guards = some []) {j : Nat} (hr : Room j X.A) (hm : X.mg "repr" = none) {e : Expr} {t : DE} (h : PE X e (LE c t)) (hg : Gl X "repr" := by rfl) (hs : starEach [e] X.env = (false, eval e X.env) :: starEach [] X.env := by rfl) (hp : (backTo pos (starEach [] X.env)).any (·.1) = false := by rfl) :
    PE X (.Call (.Name "repr" p) [e] [] pos) (LE c (dRepD t)) :=
  (pe_callB (call_reprD gu hr.units) hg hm (by first | exact PySem.boot_repr | rfl) (pa_cons h pa_nil hs) (he := hs) (hpl := hp)).weak fun σ H Q ⟨s, R, rp, q, f⟩ => ⟨s, _, rp, q, fun d k ⟨h1, h2, h3⟩ v H1 r1 a1 e1 => by
    obtain ⟨b1, b2, b3⟩ := shown_up d h2.plain h2.shw
    have dp := e1.dp d h2.plain
    have hz : d.py.shown.length ≤ sizeLine := Nat.le_trans b1 h2.wg
    have fin := f _ k h3 (.str d.py.shown) H1 r1 a1 (.str _)
    have sub : Dp X.K H1 v d.py := (e1.mono (wo_sub _ _) |> fun z => hK ▸ z.dp d h2.plain)
    cases d with
    | lst xs =>
      obtain ⟨a, vs, rfl, _, _⟩ := e1.lstE
      exact ⟨a, _, rfl, sub, b2, b3, h2.dep, hz, fin⟩
    | tup xs =>
      obtain ⟨a, vs, rfl, _, _⟩ := e1.tupE
      exact ⟨a, _, rfl, sub, b2, b3, h2.dep, hz, fin⟩
    | _ => exact h1.elim⟩
end
end DL
namespace L2G
open PySem PySem.Spec PyProof.Rows L2 HT
theorem back_pick (xs : Array Value) : ((List.range xs.size).filterMap fun (m : Nat) => xs[(((xs.size : Int) - 1) + (m : Int) * -1).toNat]?) = xs.toList.reverse := by
  have e : ∀ n, n ≤ xs.size → ((List.range n).filterMap fun (m : Nat) => xs[(((xs.size : Int) - 1) + (m : Int) * -1).toNat]?) = (xs.toList.reverse).take n := by
    intro n hn
    induction n with
    | zero => rfl
    | succ n ih =>
      have hlt : xs.size - 1 - n < xs.size := by omega
      have ei : (((xs.size : Int) - 1) + (n : Int) * -1).toNat = xs.size - 1 - n := by omega
      have lt : n < xs.toList.reverse.length := by rw [List.length_reverse, Array.length_toList]; omega
      rw [List.range_succ, List.filterMap_append, ih (by omega), List.take_succ_eq_append_getElem lt]
      congr 1
      rw [List.filterMap_cons, ei, List.getElem_reverse]
      rw [Array.getElem?_eq_getElem hlt]
      rfl
  rw [e _ (Nat.le_refl _)]
  exact List.take_of_length_le (by rw [List.length_reverse, Array.length_toList]; exact Nat.le_refl _)
section
variable {prog : Program} {w : World} {A : Around} {E : Value → Shared → Prop} {s : Shared}
theorem applied_back {sl : Addr} {vl vu vs : Value} {n : Nat} {Q : Int × Int × Nat → Shared → Prop} (hs : s.heap.IsSliceOf sl vl vu vs) (pl : IsPart vl none) (pu : IsPart vu none) (ps : IsPart vs (some (-1)))
    (h : Q ((n : Int) - 1, -1, n) s) : wpAny (model prog w) A (Builtin.Slice.sliceApplied (.ref sl) (pure (n : Int))) Q E s := by
  obtain ⟨o, ho, _, hd⟩ := id hs
  unfold Builtin.Slice.sliceApplied Builtin.Slice.sliceFields
  refine wpAny_bind (wpAny_bind (wpAny_field ho hd (x := vl) rfl (wpAny_bind (wpAny_field ho hd (x := vu) rfl (wpAny_bind (wpAny_field ho hd (x := vs) rfl (wpAny_pure ?_)))))))
  refine wpAny_bind (slicePart_ ps ?_)
  show wpAny _ _ (if ((-1 : Int) == 0) = true then _ else _) _ _ s
  rw [if_neg (by decide)]
  refine wpAny_bind (slicePart_ pl (wpAny_bind (slicePart_ pu (wpAny_bind (wpAny_pure ?_)))))
  have e1 : Builtin.Slice.sliceAdjust none none (-1) (n : Int) = ((n : Int) - 1, -1) := by
    unfold Builtin.Slice.sliceAdjust
    simp
  have e2 : Builtin.Slice.slicePlaces ((n : Int) - 1) (-1) (-1) = n := by
    unfold Builtin.Slice.slicePlaces
    simp
    split <;> omega
  show wpAny _ _ (match Builtin.Slice.sliceAdjust none none (-1) (n : Int) with | (a, b) => pure (a, (-1 : Int), Builtin.Slice.slicePlaces a b (-1))) _ _ s
  rw [e1]
  show wpAny _ _ (pure ((n : Int) - 1, (-1 : Int), Builtin.Slice.slicePlaces ((n : Int) - 1) (-1) (-1))) _ _ s
  rw [e2]
  exact wpAny_pure h
theorem tuple_back {t sl : Addr} {its : Array Value} {vl vu vs : Value} {Q : Value → Shared → Prop} (ht : IsTup s.heap t its) (hs : s.heap.IsSliceOf sl vl vu vs) (pl : IsPart vl none) (pu : IsPart vu none) (ps : IsPart vs (some (-1)))
    (h : Q (.ref s.heap.objs.size) { s with heap := s.heap.push { cls := .type "tuple", data := .seq its.toList.reverse.toArray } }) (hz : its.size ≤ sizeLine) : wpAny (model prog w) A (getItem (.ref t) (.ref sl)) Q E s := by
  have okz : sizeOk (.seq its.toList.reverse.toArray) := by
    show its.toList.reverse.toArray.size ≤ sizeLine
    rw [List.size_toArray, List.length_reverse, Array.length_toList]
    exact hz
  obtain ⟨o, ho, hc, _⟩ := id hs
  have isS : s.TypeIs (.ref sl) "slice" := ⟨o, ho, hc⟩
  unfold getItem
  try with_reducible refine wpAny_holding ?_
  first | refine wpAny_bind (wpAny_pure ?_) | skip
  refine wpAny_bind (wpAny_sequenceKey ht.typeIs (by decide) ?_)
  refine wpAny_bind (wpAny_callSpecial?_slot (name := Str.ofString "__getitem__") ht.typeIs PyProof.Rows.slot_tuple_getitem (wpAny_call_entry PyProof.Rows.slot_tuple_getitem ht.typeIs entry_tuple_getitem ?_ (args_tuple_getitem _ _)))
  show wpAny _ _ (Builtin.Tuple.tupleItemsOf (.ref t) >>= _) _ _ s
  refine wpAny_bind (tupleItemsOf_ ht (wpAny_bind (wpAny_typeOf isS ?_)))
  rw [if_pos (by decide)]
  refine wpAny_bind (applied_back hs pl pu ps ?_)
  have no : ¬ ((((its.size : Int) - 1) == 0 && (-1 : Int) == 1 && its.size == its.size) = true) := by simp
  show wpAny _ _ (if (((its.size : Int) - 1) == 0 && (-1 : Int) == 1 && its.size == its.size) = true then _ else _) _ _ s
  rw [if_neg no, back_pick]
  first
    | exact wpAny_bind (m := Builtin.Tuple.tupleExact _) (wpAny_newObj_type (wpAny_pure ⟨_, rfl, wpAny_pure h⟩) okz)
    | exact wpAny_bind (wpAny_bind (m := Builtin.Tuple.tupleExact _) (wpAny_newObj_type (wpAny_pure (wpAny_pure ⟨_, rfl, wpAny_pure h⟩)) okz))
    | exact wpAny_bind (wpAny_bind (m := Builtin.Tuple.tupleExact _) (wpAny_newObj_type (wpAny_pure ⟨_, rfl, wpAny_pure h⟩) okz))
end
section
variable {X : Cx}
abbrev tRevS (K : PySem.W.Frag) (te : TE) : TE := fun σ H Q => te σ H fun x H1 => ∃ a xs, x = .ref a ∧ ((SqL K H1 a xs ∧ ∀ p, H1 p = none → Q (.ref p) (upd H1 p (.lst xs.reverse))) ∨ (SqT K H1 a xs ∧ ∀ p, H1 p = none → Q (.ref p) (upd H1 p (.tup xs.reverse))))
theorem pe_revS {e : Expr} {te : TE} {k : Nat} {p1 p2 p3 pos : Pos} (he : PE X e te) : PE X (.Subscript e (.Slice none none (some (.UnaryOp .USub (.Constant (.int 1) k p1) p2)) p3) pos) (tRevS X.K te) := by
  refine ⟨fun pins s σ H Q I h => Subscript_ (thn (he.run pins s σ H _ I h) fun v s1 ⟨x, H1, I1, r1, a, xs, ex, hx⟩ => ?_)⟩
  subst ex
  obtain rfl : v = Value.ref a := r1
  have step : PO X (some (.UnaryOp .USub (.Constant (.int 1) k p1) p2)) (tPart (tUn (rU fun i => .int (-i)) (tC (.int 1)))) := po_some (pe_un un_neg pe_int)
  refine wpAny_Slice (thn (po_none.run pins s1 σ H1 (fun o G => o = none ∧ G = H1) I1 ⟨rfl, rfl⟩) fun vl s2 ⟨o1, G1, J1, pl, z1, z2⟩ => ?_)
  subst z1 z2
  refine thn (po_none.run pins s2 σ G1 (fun o G => o = none ∧ G = G1) J1 ⟨rfl, rfl⟩) fun vu s3 ⟨o2, G2, J2, pu, z1, z2⟩ => ?_
  subst z1 z2
  refine thn (step.run pins s3 σ G2 (fun o G => o = some (-1) ∧ G = G2) J2 ⟨1, rfl, -1, rfl, rfl, rfl⟩) fun vs s4 ⟨o3, G3, J3, ps, z1, z2⟩ => ?_
  subst z1 z2
  have J : Inv X pins σ G3 { s4 with heap := s4.heap.push { cls := .type "slice", data := .fields #[vl, vu, vs] } } := J3.kept (t' := s4.toks) fun b ob q => Heap.get?_push_of_some _ q
  show wpAny (model X.prog X.w) X.A (subscriptTail e (.Slice none none (some (.UnaryOp .USub (.Constant (.int 1) k p1) p2)) p3) (.ref a) (.ref s4.heap.objs.size)) (EP X pins σ Q) X.xe { s4 with heap := s4.heap.push { cls := .type "slice", data := .fields #[vl, vu, vs] } }
  rcases hx with ⟨hx, q⟩ | ⟨hx, q⟩
  · obtain ⟨its, r, pt, hz⟩ := J.list hx
    have ln := r.length
    refine tail_any (ops := [.ref a, .ref s4.heap.objs.size]) pt.isList.typeIs (PySem.slot_list_getitem.lookup) ?_ (by with_unfolding_all rfl)
    refine wpAny_getItem_list_slice pt.isList (Heap.IsSliceOf.new _ vl vu vs) pl pu ps (by decide) ?_ (by rw [List.size_toArray]; omega)
    rw [PySem.W.krv_pick]
    exact ⟨.ref _, _, J.laid (t' := s4.toks) (o := .lst xs.reverse) (fun b ob q => Heap.get?_push_of_some _ q) (Nat.le_refl _) ⟨by rw [List.length_reverse]; exact hz, _, 0, r.reverse, Heap.get?_push_size _ rfl⟩, rfl, q _ (J.hok.fresh (Nat.le_refl _))⟩
  · obtain ⟨its, r, pt, hz⟩ := J.tuple hx
    have ln := r.length
    refine tail_any (ops := [.ref a, .ref s4.heap.objs.size]) pt.typeIs (PyProof.Rows.slot_tuple_getitem.lookup) ?_ (by with_unfolding_all rfl)
    refine tuple_back pt (Heap.IsSliceOf.new _ vl vu vs) pl pu ps ?_ (by rw [List.size_toArray]; omega)
    exact ⟨.ref _, _, J.laid (t' := s4.toks) (o := .tup xs.reverse) (fun b ob q => Heap.get?_push_of_some _ q) (Nat.le_refl _) ⟨by rw [List.length_reverse]; exact hz, _, r.reverse, IsTup.new _ _⟩, rfl, q _ (J.hok.fresh (Nat.le_refl _))⟩
end
end L2G
namespace DL
open PySem L2 L2G
open PySem.W (Frag)
abbrev dRev (t : DE) : DE := fun s Q => t s fun d k => match d with | .lst ds => Q (.lst ds.reverse) k | .tup ds => Q (.tup ds.reverse) k | _ => False
section
variable {X : Cx} {c : C}
theorem pd_rev (hK : c.K = X.K) {e : Expr} {t : DE} {k : Nat} {p1 p2 p3 pos : Pos} (he : PE X e (LE c t)) : PE X (.Subscript e (.Slice none none (some (.UnaryOp .USub (.Constant (.int 1) k p1) p2)) p3) pos) (LE c (dRev t)) :=
  (pe_revS he).weak fun σ H Q ⟨s, R, rp, q, f⟩ => ⟨s, _, rp, q, fun d k h1 v H1 r1 a1 e1 => by
    cases d with
    | lst ds =>
      obtain ⟨a, vs, rfl, h, r⟩ := e1.lstE
      refine ⟨a, vs, rfl, .inl ⟨hK ▸ SqL.of (wo_sub _ _ _ _ h), fun p hp => ?_⟩⟩
      have n := r1.new (o := .lst vs.reverse) hp
      exact f _ _ h1 _ _ n.1 (a1.trans n.2) (.lst (r1.at_new hp) (RlA.rev (r.mono n.2.sub)))
    | tup ds =>
      obtain ⟨a, vs, rfl, h, r⟩ := e1.tupE
      refine ⟨a, vs, rfl, .inr ⟨hK ▸ (wo_sub _ _).st h, fun p hp => ?_⟩⟩
      have n := r1.new (o := .tup vs.reverse) hp
      exact f _ _ h1 _ _ n.1 (a1.trans n.2) (.tup (SqT.of (r1.at_new hp)) (RlA.rev (r.mono n.2.sub)))
    | _ => exact h1.elim⟩
theorem pd_negc {i : Int} {kk : Nat} {p1 p2 : Pos} : PE X (.UnaryOp .USub (.Constant (.int i) kk p1) p2) (LE c (dC (.int (-i)))) :=
  (pe_un un_neg pe_int).weak fun σ H Q ⟨s, R, rp, q, f⟩ => ⟨i, rfl, f _ _ q _ H rp AdvE.refl (.int _)⟩
end
end DL
namespace DL
open PySem L2
open PySem.W (Frag)
section
variable {X : Cx} {c : C} {tg : Expr}
theorem pid_seq (hK : c.K = X.K) {l : Expr} {t : DE} (h : PE X l (LE c t)) : PI X tg l (LI c (iSeq t)) := by
  refine ⟨fun pins s σ H R I ⟨st, Z, rp, q, f⟩ => ?_⟩
  refine thn (h.run pins s σ H (fun v H1 => ∃ d k ds, d.items = some ds ∧ Z ds k ∧ Rep c (st.at k) σ H1 ∧ AdvE c st.X H H1 ∧ Rl c.K (c.hid st.X H1) v d) I
    ⟨st, _, rp, q, fun d k ⟨ds, h1, h2⟩ v H1 r1 a1 e1 => ⟨d, k, ds, h1, h2, r1, a1, e1⟩⟩) fun v s1 ⟨x, H1, I1, rv, d, k, ds, hd, hz, rp1, a1, e1⟩ => ?_
  have fresh : ∀ b, s1.heap.objs.size ≤ b → H1 b = none := fun b hb => I1.hok.fresh hb
  have one : ∀ b ∈ [s1.heap.objs.size], s1.heap.objs.size ≤ b := fun b hb => by
    rw [List.mem_singleton.mp hb]; exact Nat.le_refl _
  cases d <;> first | cases hd | skip
  · obtain ⟨a, ws, rfl, h1, r⟩ := e1.lstE
    cases (show _ = Value.ref a from rv)
    obtain ⟨its, rv', p', hz'⟩ := I1.list (SqL.of (wo_sub _ _ _ _ h1) : SqL X.K H1 a ws)
    exact wpAny_pyIter_list p'.isList ⟨_, [s1.heap.objs.size], _, _, H1, rfl, I1.kept (t' := s1.toks) (fun b o e => Heap.get?_push_of_some _ e), turn_list a _,
      ⟨_, Heap.get?_push_size _ rfl, rfl, rfl⟩, fun b hb => I1.fpOk (one b hb) (fresh b (one b hb)), f _ k hz _ H1 rp1 a1 (Yl.list hK h1 r)⟩
  · obtain ⟨a, ws, rfl, h1, r⟩ := e1.tupE
    cases (show _ = Value.ref a from rv)
    obtain ⟨its, rv', p', hz'⟩ := I1.tuple (hK ▸ (wo_sub _ _).st h1 : SqT X.K H1 a ws)
    exact wpAny_pyIter_tuple (show s1.heap.IsTuple a its.toArray from p') ⟨_, [s1.heap.objs.size], _, _, H1, rfl, I1.kept (t' := s1.toks) (fun b o e => Heap.get?_push_of_some _ e), turn_tuple a _,
      ⟨_, Heap.get?_push_size _ rfl, rfl, rfl⟩, fun b hb => I1.fpOk (one b hb) (fresh b (one b hb)), f _ k hz _ H1 rp1 a1 (Yl.tup hK h1 r)⟩
end
end DL
set_option maxHeartbeats 2000000
namespace DL
open PySem PySem.Spec PyProof.Rows L2
end DL
set_option maxHeartbeats 1000000
namespace DL
open PySem L2
open PySem.W (Frag)
def XRl (K : Frag) (H : Hp) (cls : Value) (dd : Option Addr) (d : D) : Prop := ∃ n ns ds vs, d = .exc n ns ds ∧ cls = .ref (He.ga K n) ∧ ExF H dd ns vs ∧ ns.length = vs.length ∧ RlA K H vs ds
theorem XRl.mono {K : Frag} {A B : Hp} (x : Sub A B) {cls : Value} {dd : Option Addr} {d : D} (h : XRl K A cls dd d) : XRl K B cls dd d := by
  obtain ⟨n, ns, ds, vs, e, c, f, l, r⟩ := h
  exact ⟨n, ns, ds, vs, e, c, f.mono x, l, r.mono x⟩
abbrev EX := D → S → Prop
def WL (c : C) (Ex : EX) : WX := fun cls dd σ H => ∃ s x, Rep c s σ H ∧ XRl c.K (c.hid s.X H) cls dd x ∧ Ex x s
theorem WL.imp {c : C} {Ex Ex' : EX} (h : ∀ d s, Ex d s → Ex' d s) : ∀ cls dd σ H, WL c Ex cls dd σ H → WL c Ex' cls dd σ H := fun _ _ _ _ ⟨s, x, r, e, q⟩ => ⟨s, x, r, e, h _ _ q⟩
abbrev DSpX := List D → Nat → (D → Nat → Prop) → (D → Nat → Prop) → Prop
def spDX (K : Frag) (hm : Bool) (sp : DSpX) : Sp := fun vs H Q E => ∃ (M : Option Mc) (X0 : List Addr) (k : Nat) (ds : List D) (ws : List V) (R Ex : D → Nat → Prop),
  (match hm with | true => ∃ m, (M = some m ∧ m.kd = none) ∧ vs = .ref m.pm :: ws | false => M = none ∧ vs = ws) ∧ Ahd K M X0 H k ws ds ∧ sp ds k R Ex ∧
  (∀ d k', R d k' → ∀ v H', Aft K M X0 H H' k' → Rl K (wo H' (Ml M ++ X0)) v d → Q v H') ∧
  ∀ d k', Ex d k' → ∀ cls dd H', Aft K M X0 H H' k' → XRl K (wo H' (Ml M ++ X0)) cls dd d → E cls dd H'
structure CalX (P : Program) (w : World) (K : Frag) (mg : PySem.Str → Option Value) (base : Heap) (k : Nat) (x : PySem.Str) (sp : DSpX) : Prop where
  ex : ∃ f fd ps, FnOk P w K mg base (L2.CX P w) k f fd ps (spDX K false sp) ∧ mg x = some (.ref f) ∧ PySem.W.keepIn K (.ref f) = true ∧ Binds K fd ps []
end DL
set_option maxHeartbeats 1000000
namespace DL
open PySem PySem.Spec PyProof.Rows L2
end DL
set_option maxHeartbeats 1000000
namespace DL
open PySem L2
open PySem.W (Frag)
end DL
set_option maxHeartbeats 1000000
namespace DL
open PySem PySem.Spec PyProof.Rows L2 LamX
theorem Takes.len {X : Cx} {W : WX} (t : Takes X W) : Takes X (fun cls d σ H => σ.length = X.N.length → W cls d σ H) := fun u s' ⟨a, B, sI, pins, σ, H, cls, d, e, I, nb, up, sky, na, os, ag, w⟩ =>
  t u s' ⟨a, B, sI, pins, σ, H, cls, d, e, I, nb, up, sky, na, os, ag, w I.len⟩
theorem PE.ex {X : Cx} {e : Expr} {t : TE} (h : PE X e t) : PE X e (fun σ H Q => ∃ R : VK, t σ H R ∧ ∀ v H', R v H' → Q v H') := ⟨fun p s σ H Q I ⟨R, q, f⟩ => thn (h.run p s σ H R I q) fun u s1 ⟨x, H1, I1, r, q1⟩ => ⟨x, H1, I1, r, f _ _ q1⟩⟩
end DL
set_option maxHeartbeats 1000000
namespace DL
open PySem PySem.Spec PyProof.Rows L2 LamX
def NoTs (H : Hp) : Prop := ∀ a ps, H a ≠ some (.tbl ps)
theorem tbk_none {A B : Hp} (h : NoTs A) (u : ∀ a vs, Rd A a (.tup vs) → Rd B a (.tup vs)) : TbK A B := by
  refine ⟨fun T t p hp => ?_, fun p ps e => absurd e (h p ps), u⟩
  obtain ⟨ps, e, _⟩ := t p hp
  exact absurd e (h _ ps)
end DL
set_option maxHeartbeats 1000000
namespace DL
open PySem PySem.Spec PyProof.Rows L2
open PySem.W (Frag)
end DL
set_option maxHeartbeats 1000000
namespace DL
open PySem L2
open PySem.W (Frag)
end DL
namespace BW
open PySem L2 DL
abbrev Mat := List (List Int)
abbrev tI (xs : List Int) : D := .tup (xs.map .int)
abbrev lI (xs : List Int) : D := .lst (xs.map .int)
abbrev lM (T : Mat) : D := .lst (T.map lI)
abbrev tM (T : Mat) : D := .tup (T.map tI)
def at2 (T : Mat) (i j : Nat) : Int := (T.getD i []).getD j 0
def wts (k : Int) : Int × Int := if k = 2 then (0, 0) else if k = 3 then (1, 1) else if k = 4 then (1, 2) else if k = 6 then (1, 3) else (2, 2)
def wt (T : Mat) (i j : Nat) : Int := if i = j then -2 else if i < j then (wts (at2 T i j)).1 else (wts (at2 T i j)).2
structure Tab (T : Mat) : Prop where
  lo : 1 ≤ T.length
  hi : T.length ≤ 6
  sq : ∀ i, i < T.length → (T.getD i []).length = T.length
  dg : ∀ i, i < T.length → at2 T i i = 1
  of : ∀ i j, i < T.length → j < T.length → i ≠ j → at2 T i j = 2 ∨ at2 T i j = 3 ∨ at2 T i j = 4 ∨ at2 T i j = 6 ∨ at2 T i j = 0
  sy : ∀ i j, i < T.length → j < T.length → at2 T i j = at2 T j i
def press (T : Mat) (row : List Int) (i : Nat) : List Int := (List.range T.length).map fun j => row.getD j 0 + wt T i j * row.getD i 0
def wtr (T : Mat) (i : Nat) : List Int := (List.range T.length).map (wt T i)
def wtM (T : Mat) : Mat := (List.range T.length).map (wtr T)
abbrev bnd (BC : Addr) (T : Mat) : D := .ins BC ["table", "weights"] [tM T, tM (wtM T)]
abbrev ix (a : Int) : Nat := (a - 1).toNat
def Wd (n : Nat) (w : List Int) : Prop := ∀ a ∈ w, 1 ≤ a ∧ a ≤ n
def one (T : Mat) : List Int := List.replicate T.length 1
def row (T : Mat) (w : List Int) : List Int := w.foldl (fun r a => press T r (ix a)) (one T)
def fall (r : List Int) : List Int := ((List.range r.length).filter fun i => decide (r.getD i 0 < 0)).map fun (i : Nat) => (i : Int) + 1
def wd (T : Mat) : Nat → List Int → List Int × List Int
  | 0, r => ([], r)
  | n + 1, r => match fall r with
    | [] => ([], r)
    | a :: _ => (a :: (wd T n (press T r (ix a))).1, (wd T n (press T r (ix a))).2)
def D.isI : D → Bool
  | .int _ => true
  | _ => false
def D.isL (n : Int) : D → Bool
  | .int a => decide (1 ≤ a) && decide (a ≤ n)
  | _ => false
def sp_is_whole : DSp := fun ds k R => ∃ d, ds = [d] ∧ d.tname.isSome = true ∧ R (.bl (D.isI d)) k
def sp_is_letter : DSp := fun ds k R => ∃ d n, ds = [d, .int n] ∧ d.tname.isSome = true ∧ R (.bl (D.isL n d)) k
def sp_can_stand : DSp := fun ds k R => ∃ T a b, ds = [lM T, .int a, .int b] ∧ Tab T ∧ 1 ≤ a ∧ a ≤ T.length ∧ 1 ≤ b ∧ b ≤ T.length ∧ R (.bl true) k
def sp_check_shape : DSp := fun ds k R => ∃ T, ds = [lM T] ∧ Tab T ∧ R .non k
def sp_check_table : DSp := fun ds k R => ∃ T, ds = [lM T] ∧ Tab T ∧ R .non k
def sp_weight_of : DSp := fun ds k R => ∃ T a b, ds = [tM T, .int a, .int b] ∧ Tab T ∧ 1 ≤ a ∧ a ≤ T.length ∧ 1 ≤ b ∧ b ≤ T.length ∧ R (.int (wt T (ix a) (ix b))) k
def sp_weights_from : DSp := fun ds k R => ∃ T a, ds = [tM T, .int a] ∧ Tab T ∧ 1 ≤ a ∧ a ≤ T.length ∧ R (tI (wtr T (ix a))) k
def sp_Bonds (BC : Addr) : DSp := fun ds k R => ∃ T, ds = [lM T] ∧ Tab T ∧ R (bnd BC T) k
def sp_len_Bonds (BC : Addr) : DSp := fun ds k R => ∃ T, ds = [bnd BC T] ∧ T.length ≤ 6 ∧ R (.int T.length) k
def isW (d : D) (w : List Int) : Prop := d = lI w ∨ d = tI w
def sp_as_word : DSp := fun ds k R => ∃ d w, ∃ n : Nat, ds = [d, .int n] ∧ isW d w ∧ w.length ≤ 60 ∧ Wd n w ∧ R (tI w) k
def sp_first_row (BC : Addr) : DSp := fun ds k R => ∃ T, ds = [bnd BC T] ∧ Tab T ∧ R (tI (one T)) k
def sp_pressed (BC : Addr) : DSp := fun ds k R => ∃ T r a, ds = [bnd BC T, tI r, .int a] ∧ Tab T ∧ r.length = T.length ∧ 1 ≤ a ∧ a ≤ T.length ∧ R (tI (press T r (ix a))) k
def sp_row_behind (BC : Addr) : DSp := fun ds k R => ∃ T d w, ds = [bnd BC T, d] ∧ Tab T ∧ isW d w ∧ Wd T.length w ∧ R (tI (row T w)) k
def sp_fallen : DSp := fun ds k R => ∃ r, ds = [tI r] ∧ r.length ≤ 6 ∧ R (tI (fall r)) k
def sp_way_down (BC : Addr) : DSp := fun ds k R => ∃ T r, ds = [bnd BC T, tI r] ∧ Tab T ∧ r.length = T.length ∧ R (.tup [lI (wd T 60 r).1, tI (wd T 60 r).2]) k
def sp_row_of (BC : Addr) : DSp := fun ds k R => ∃ T d w, ds = [bnd BC T, d] ∧ Tab T ∧ isW d w ∧ w.length ≤ 60 ∧ Wd T.length w ∧ R (tI (row T w)) k
def sp_length (BC : Addr) : DSp := fun ds k R => ∃ T d w, ds = [bnd BC T, d] ∧ Tab T ∧ isW d w ∧ w.length ≤ 60 ∧ Wd T.length w ∧ R (.int (wd T 60 (row T w)).1.length) k
def sp__law_mixed : DSp := fun ds k R => ∃ a n : Int, ds = [.int a, .int n] ∧ 0 ≤ a ∧ a < 1000000000000000 ∧ 0 ≤ n ∧ n < 1000000000000 ∧ ∀ r, 0 ≤ r → r < 306783377 → R (.int r) k
def sp__law_draw : DSp := fun ds k R => ∃ z : Int, ds = [.int z] ∧ 0 < z ∧ z < 2 ^ 200 ∧ k < 100000000000 ∧ ∀ d, 0 ≤ d → d < z → R (.int d) (k + 1)
def sp__law_weight : DSp := fun ds k R => ∃ T a b, ds = [lM T, .int a, .int b] ∧ Tab T ∧ 1 ≤ a ∧ a ≤ T.length ∧ 1 ≤ b ∧ b ≤ T.length ∧ R (.int (wt T (ix a) (ix b))) k
def sp__law_press : DSp := fun ds k R => ∃ T r a, ds = [lM T, tI r, .int a] ∧ Tab T ∧ r.length = T.length ∧ 1 ≤ a ∧ a ≤ T.length ∧ R (tI (press T r (ix a))) k
def sp__law_word : DSp := fun ds k R => ∃ T, ∃ most : Int, ds = [lM T, .int most] ∧ Tab T ∧ 0 ≤ most ∧ most ≤ 60 ∧ k < 90000000000 ∧ ∀ w k', Wd T.length w → (w.length : Int) ≤ most → k ≤ k' → k' ≤ k + 200 → R (tI w) k'
def alt (a b : Int) (n : Nat) : List Int := (List.range n).map fun i => if i % 2 = 0 then a else b
def sp__law_stretch : DSp := fun ds k R => ∃ a b, ∃ n : Int, ds = [.int a, .int b, .int n] ∧ 0 ≤ n ∧ n ≤ 1000 ∧ R (tI (alt a b n.toNat)) k
end BW
namespace BW
open PySem L2 DL
def kd_WEIGHTS : List (Int × D) := [(2, tI [0, 0]), (3, tI [1, 1]), (4, tI [1, 2]), (6, tI [1, 3]), (0, tI [2, 2])]
abbrev t_is_whole : DS := (dRet (dAndV (dIsi "int" (dVar 0)) (dNotV (dIsi "bool" (dVar 0)))))
abbrev t_is_letter : DS := (dRet (dAndV (dCall sp_is_whole (dCons (dVar 0) dNil)) (dCh oLe oLe (dC (.int 1)) (dVar 0) (dVar 1))))
abbrev t_can_stand : DS := (dSeq (dSet 3 (dOp oIx (dIxN 0 (dOp oSub (dVar 1) (dC (.int 1)))) (dOp oSub (dVar 2) (dC (.int 1)))))
  (dSeq (dIfS (dNot (dTru (dCall sp_is_whole (dCons (dVar 3) dNil)))) (dRet (dC (.bl false))) dNext)
  (dSeq (dIfS (dTB (dOp oEq (dVar 1) (dVar 2))) (dRet (dOp oEq (dVar 3) (dC (.int (1))))) dNext)
  (dSeq (dIfS (dTB (dOp oLt (dVar 1) (dVar 2))) (dRet (dKdIn kd_WEIGHTS (dVar 3))) dNext)
  (dRet (dOp oEq (dVar 3) (dOp oIx (dIxN 0 (dOp oSub (dVar 2) (dC (.int 1)))) (dOp oSub (dVar 1) (dC (.int 1))))))))))
abbrev t_check_shape : DS := (dSeq (dIfS (dOr (dNot (dTru (dIsi2 "list" "tuple" (dVar 0)))) (dTB (dOp oEq (dLenN 0) (dC (.int 0))))) (fun _ _ => False) dNext)
  (dSeq (dIfS (dTB (dOp oGt (dLenN 0) (dC (.int (6))))) (fun _ _ => False) dNext)
  (dFor (iLst (dVar 0)) (dgN 1) (dIfS (dOr (dNot (dTru (dIsi2 "list" "tuple" (dVar 1)))) (dTB (dOp oNe (dLenN 1) (dLenN 0)))) (fun _ _ => False) dNext))))
abbrev t_check_table : DS := (dSeq (dDrop (dCall sp_check_shape (dCons (dVar 0) dNil)))
  (dSeq (dSet 1 (dFr (dLr2 (dC (.int 1)) (dOp oAdd (dLenN 0) (dC (.int 1))))))
  (dFor (iLst (dVar 1)) (dgN 2) (dFor (iLst (dVar 1)) (dgN 3) (dIfS (dNot (dTru (dCall sp_can_stand (dCons (dVar 0) (dCons (dVar 2) (dCons (dVar 3) dNil)))))) (fun _ _ => False) dNext)))))
abbrev t_weight_of : DS := (dSeq (dIfS (dTB (dOp oEq (dVar 1) (dVar 2))) (dRet (dC (.int (-2)))) dNext)
  (dSeq (dAsg (dKd kd_WEIGHTS (dOp oIx (dIxN 0 (dOp oSub (dVar 1) (dC (.int 1)))) (dOp oSub (dVar 2) (dC (.int 1))))) (dgTup 2 (dgCons (dgN 3) (dgCons (dgN 4) dgNil))))
  (dRet (dIf (dTB (dOp oLt (dVar 1) (dVar 2))) (dVar 3) (dVar 4)))))
abbrev t_weights_from : DS := (dRet (dTupOf (dFr (dLc (iR2 (dC (.int 1)) (dOp oAdd (dLenN 0) (dC (.int 1)))) (dgN 2) dY (dCall sp_weight_of (dCons (dVar 0) (dCons (dVar 1) (dCons (dVar 2) dNil)))) [2]))))
abbrev t_as_word : DS := (dSeq (dIfS (dNot (dTru (dIsi2 "list" "tuple" (dVar 0)))) (fun _ _ => False) dNext)
  (dSeq (dIfS (dTB (dOp oGt (dLenN 0) (dC (.int (60))))) (fun _ _ => False) dNext)
  (dSeq (dFor (iEnS (dVar 0)) (dgTup 2 (dgCons (dgN 2) (dgCons (dgN 3) dgNil))) (dIfS (dNot (dTru (dCall sp_is_letter (dCons (dVar 3) (dCons (dVar 1) dNil))))) (fun _ _ => False) dNext))
  (dRet (dTupN 0)))))
abbrev t_first_row (BC : Addr) : DS := (dRet (dOp oMul (dTup (dCons (dC (.int 1)) dNil)) (dLenO BC (sp_len_Bonds BC) (dVar 0))))
abbrev t_pressed (BC : Addr) : DS := (dSeq (dSet 3 (dIxN 1 (dOp oSub (dVar 2) (dC (.int 1)))))
  (dSeq (dSet 4 (dOp oIx (dFld BC "weights" (dVar 0)) (dOp oSub (dVar 2) (dC (.int 1)))))
  (dRet (dTupOf (dFr (dLc (iZp (dVar 1) (dVar 4)) (dgTup 2 (dgCons (dgN 5) (dgCons (dgN 6) dgNil))) dY (dOp oAdd (dVar 5) (dOp oMul (dVar 6) (dVar 3))) [5, 6]))))))
abbrev t_row_behind (BC : Addr) : DS := (dSeq (dSet 2 (dCall (sp_first_row BC) (dCons (dVar 0) dNil)))
  (dSeq (dFor (iSeq (dVar 1)) (dgN 3) (dSet 2 (dCall (sp_pressed BC) (dCons (dVar 0) (dCons (dVar 2) (dCons (dVar 3) dNil))))))
  (dRet (dVar 2))))
abbrev t_fallen : DS := (dRet (dTupOf (dFr (dLc (iEnS (dVar 0)) (dgTup 2 (dgCons (dgN 1) (dgCons (dgN 2) dgNil))) (dTB (dOp oLt (dVar 2) (dC (.int 0)))) (dOp oAdd (dVar 1) (dC (.int 1))) [1, 2]))))
abbrev t_way_down (BC : Addr) : DS := (dSeq (dSetO 2 (dLs dNil))
  (dSeq (dSet 3 (dVar 1))
  (dSeq (dSet 4 (dCall sp_fallen (dCons (dVar 3) dNil)))
  (dSeq (dWhile (dAnd (dTru (dVar 4)) (dTB (dOp oLt (dLenN 2) (dC (.int (60)))))) (dSeq (dApp 2 (dIxN 4 (dC (.int 0))))
  (dSeq (dSet 3 (dCall (sp_pressed BC) (dCons (dVar 0) (dCons (dVar 3) (dCons (dIxN 4 (dC (.int 0))) dNil)))))
  (dSet 4 (dCall sp_fallen (dCons (dVar 3) dNil))))))
  (dRet (dTup (dCons (dVar 2) (dCons (dVar 3) dNil))))))))
abbrev t_row_of (BC : Addr) : DS := (dRet (dCall (sp_row_behind BC) (dCons (dVar 0) (dCons (dCall sp_as_word (dCons (dVar 1) (dCons (dLenO BC (sp_len_Bonds BC) (dVar 0)) dNil))) dNil))))
abbrev t_length (BC : Addr) : DS := (dRet (dLen (dOp oIx (dCall (sp_way_down BC) (dCons (dVar 0) (dCons (dCall (sp_row_of BC) (dCons (dVar 0) (dCons (dVar 1) dNil))) dNil))) (dC (.int 0)))))
abbrev t__law_mixed : DS := (dSeq (dSet 2 (dOp oAdd (dOp oAdd (dOp oMod (dInt (dOp oMul (dOp oMul (dVar 0) (dOp oAdd (dC (.int 1)) (dOp oMul (dC (.int 2)) (dVar 1)))) (dC (.int 48271)))) (dC (.int 2147483647))) (dOp oMul (dOp oMul (dC (.int 7919)) (dVar 1)) (dVar 1))) (dOp oMul (dC (.int 104729)) (dVar 1))))
  (dRet (dOp oDiv (dOp oMod (dInt (dOp oMul (dVar 2) (dC (.int 69621)))) (dC (.int 2147483629))) (dC (.int 7)))))
abbrev t__law_weight : DS := (dSeq (dIfS (dTB (dOp oEq (dVar 1) (dVar 2))) (dRet (dOp oSub (dC (.int 0)) (dC (.int 2)))) dNext)
  (dSeq (dAsg (dDix [(2, (dTup (dCons (dC (.int 0)) (dCons (dC (.int 0)) dNil)))), (3, (dTup (dCons (dC (.int 1)) (dCons (dC (.int 1)) dNil)))), (4, (dTup (dCons (dC (.int 1)) (dCons (dC (.int 2)) dNil)))), (6, (dTup (dCons (dC (.int 1)) (dCons (dC (.int 3)) dNil)))), (0, (dTup (dCons (dC (.int 2)) (dCons (dC (.int 2)) dNil))))] (dOp oIx (dIxN 0 (dOp oSub (dVar 1) (dC (.int 1)))) (dOp oSub (dVar 2) (dC (.int 1))))) (dgTup 2 (dgCons (dgN 3) (dgCons (dgN 4) dgNil))))
  (dRet (dIf (dTB (dOp oLt (dVar 1) (dVar 2))) (dVar 3) (dVar 4)))))
abbrev t__law_press : DS := (dRet (dTupOf (dFr (dLc (iR1 (dLenN 0)) (dgN 3) dY (dOp oAdd (dIxN 1 (dVar 3)) (dOp oMul (dCall sp__law_weight (dCons (dVar 0) (dCons (dVar 2) (dCons (dOp oAdd (dVar 3) (dC (.int 1))) dNil)))) (dIxN 1 (dOp oSub (dVar 2) (dC (.int 1)))))) [3]))))
abbrev t__law_word : DS := (dSeq (dPar3 3 4 5 (dxO (dLs dNil) (dxD (dCallM 0 sp__law_draw (dCons (dC (.int 3)) dNil)) (dxD (dOp oMul (dTup (dCons (dC (.int 1)) dNil)) (dLenN 1)) dxN))))
  (dSeq (dFor (iR1 (dCallM 0 sp__law_draw (dCons (dOp oAdd (dVar 2) (dC (.int 1))) dNil))) (dgN 6) (dSeq (dSet 7 (dOp oAdd (dC (.int 1)) (dCallM 0 sp__law_draw (dCons (dLenN 1) dNil))))
  (dSeq (dIfS (dAnd (dTB (dOp oGt (dVar 4) (dC (.int 0)))) (dAnd (dTB (dOp oLt (dIxN 5 (dOp oSub (dVar 7) (dC (.int 1)))) (dC (.int 0)))) (dTB (dOp oGt (dCallM 0 sp__law_draw (dCons (dC (.int 8)) dNil)) (dC (.int 0)))))) (dSeq (dSet 8 (dFr (dLc (iR1 (dLenN 1)) (dgN 9) (dTB (dOp oGt (dIxN 5 (dVar 9)) (dC (.int 0)))) (dOp oAdd (dVar 9) (dC (.int 1))) [9])))
  (dSet 7 (dIf (dTB (dOp oNe (dVar 8) (dFr (dLs dNil)))) (dIxN 8 (dCallM 0 sp__law_draw (dCons (dLenN 8) dNil))) (dVar 7)))) dNext)
  (dSeq (dApp 3 (dVar 7))
  (dSet 5 (dCall sp__law_press (dCons (dVar 1) (dCons (dVar 5) (dCons (dVar 7) dNil)))))))))
  (dRet (dTupN 3))))
abbrev t__law_stretch : DS := (dRet (dTupOf (dFr (dLc (iR1 (dVar 2)) (dgN 3) dY (dOp oIx (dFr (dLs (dCons (dVar 0) (dCons (dVar 1) dNil)))) (dOp oMod (dInt (dVar 3)) (dC (.int 2)))) [3]))))
end BW
namespace BW
open PySem L2 DL
theorem iteD {p : Prop} [Decidable p] {a b : Prop} (h1 : p → a) (h2 : ¬p → b) : if decide p = true then a else b := by
  by_cases h : p
  · rw [decide_eq_true h]; exact iteT (h1 h)
  · rw [decide_eq_false h]; exact iteF (h2 h)
theorem ixN_nat {n j : Nat} (hj : j < n) : ixN n (j : Int) = some j := by
  unfold ixN
  rw [if_pos (by omega), if_pos (by omega)]
  simp
theorem getD_get {α : Type} {xs : List α} {i : Nat} {d : α} (h : i < xs.length) : xs[i]? = some (xs.getD i d) := by
  rw [List.getD_eq_getElem?_getD, List.getElem?_eq_getElem h]; rfl
theorem atM {α β : Type} {xs : List α} {f : α → β} {i : Nat} (d : α) (h : i < xs.length) : atI (xs.map f) (i : Int) = some (f (xs.getD i d)) := by
  refine atI_nat ?_
  rw [List.getElem?_map, getD_get (d := d) h]; rfl
theorem okI (a : Int) : (D.int a).okE = true := rfl
theorem eqvI (a b : Int) : PyData.eqv (D.int a).py (D.int b).py = decide (a = b) := by
  show PyData.eqv (.int a) (.int b) = _
  first | rfl | (unfold PyData.eqv; rfl)
abbrev St0 (hm : Bool) (n : Nat) (ds : List D) (X : List Addr) (k : Nat) : S := ⟨X, init hm n ds, k⟩
abbrev En (R : D → Nat → Prop) : DEnds := { nx := fun s => R .non s.k, rt := R }
theorem r_is_whole (X : List Addr) (ds : List D) (k : Nat) (R : D → Nat → Prop) (h : sp_is_whole ds k R) : t_is_whole (En R) (St0 false 1 ds X k) := by
  obtain ⟨d, rfl, hd, h⟩ := h
  intro X
  cases d <;> first
    | exact ⟨_, rfl, _, _, rfl, rfl, _, rfl, iteT ⟨_, rfl, _, _, rfl, rfl, _, rfl, h⟩⟩
    | exact ⟨_, rfl, _, _, rfl, rfl, _, rfl, iteF h⟩
    | cases hd
theorem r_is_letter (X : List Addr) (ds : List D) (k : Nat) (R : D → Nat → Prop) (h : sp_is_letter ds k R) : t_is_letter (En R) (St0 false 2 ds X k) := by
  obtain ⟨d, n, rfl, hd, h⟩ := h
  intro X
  refine ⟨_, rfl, d, rfl, hd, ?_⟩
  cases d <;> first
    | exact ⟨_, rfl, iteF h⟩
    | skip
  rename_i a
  refine ⟨_, rfl, iteT ⟨_, rfl, _, rfl, iteD (fun h1 => ⟨_, rfl, ?_⟩) fun h1 => ?_⟩⟩
  · have e : D.isL n (.int a) = decide (a ≤ n) := by
      show (decide (1 ≤ a) && decide (a ≤ n)) = _
      rw [decide_eq_true h1, Bool.true_and]
    rw [e] at h
    exact h
  · have e : D.isL n (.int a) = false := by
      show (decide (1 ≤ a) && decide (a ≤ n)) = _
      rw [decide_eq_false h1, Bool.false_and]
    rw [e] at h
    exact h
theorem r_can_stand (X : List Addr) (ds : List D) (k : Nat) (R : D → Nat → Prop) (h : sp_can_stand ds k R) : t_can_stand (En R) (St0 false 4 ds X k) := by
  obtain ⟨T, a, b, rfl, ht, a1, a2, b1, b2, h⟩ := h
  obtain ⟨i, rfl⟩ : ∃ i : Nat, a = (i : Int) + 1 := ⟨(a - 1).toNat, by omega⟩
  obtain ⟨j, rfl⟩ : ∃ j : Nat, b = (j : Int) + 1 := ⟨(b - 1).toNat, by omega⟩
  have hi : i < T.length := by omega
  have hj : j < T.length := by omega
  have row : ∀ i : Nat, i < T.length → ∀ z : Int, z = (i : Int) → atI (T.map lI) z = some (lI (T.getD i [])) := fun i hi z e => by rw [e]; exact atM [] hi
  have item : ∀ i j : Nat, i < T.length → j < T.length → ∀ z : Int, z = (j : Int) → atI ((T.getD i []).map D.int) z = some (.int (at2 T i j)) := fun i j hi hj z e => by rw [e]; exact atM 0 (by rw [ht.sq i hi]; exact hj)
  refine ⟨_, rfl, _, rfl, _, _, rfl, row i hi _ (by omega), _, rfl, _, _, rfl, item i j hi hj _ (by omega), ?_⟩
  refine ⟨_, rfl, _, rfl, rfl, _, rfl, iteF ?_⟩
  refine ⟨_, rfl, _, rfl, rfl, rfl, _, rfl, ?_⟩
  rw [eqvI]
  refine iteD (fun e => ?_) fun ne => ?_
  · have e : i = j := by omega
    subst e
    intro X
    refine ⟨_, rfl, rfl, rfl, ?_⟩
    rw [eqvI, ht.dg i hi]
    exact h
  · refine ⟨_, rfl, _, rfl, _, rfl, iteD (fun lt => ?_) fun ge => ?_⟩
    · intro X
      refine ⟨_, rfl, _, rfl, ?_⟩
      have e : (lookI kd_WEIGHTS (at2 T i j)).isSome = true := by
        rcases ht.of i j hi hj (by omega) with e | e | e | e | e <;> rw [e] <;> rfl
      rw [e]
      exact h
    · intro X
      refine ⟨_, rfl, _, rfl, _, rfl, _, _, rfl, row j hj _ (by omega), _, rfl, _, _, rfl, item j i hj hi _ (by omega), rfl, rfl, ?_⟩
      rw [eqvI, ht.sy i j hi hj, decide_eq_true rfl]
      exact h
end BW
namespace TT
def sm (f : Nat → Int) : Nat → Int
  | 0 => 0
  | n + 1 => sm f n + f n
theorem sm_congr {f g : Nat → Int} : ∀ {n : Nat}, (∀ j, j < n → f j = g j) → sm f n = sm g n
  | 0, _ => rfl
  | n + 1, h => by
    show sm f n + f n = sm g n + g n
    rw [sm_congr (fun j hj => h j (Nat.lt_succ_of_lt hj)), h n (Nat.lt_succ_self n)]
theorem sm_add {f g : Nat → Int} : ∀ {n : Nat}, sm (fun j => f j + g j) n = sm f n + sm g n
  | 0 => rfl
  | n + 1 => by
    show sm (fun j => f j + g j) n + (f n + g n) = (sm f n + f n) + (sm g n + g n)
    rw [sm_add]; omega
theorem sm_mul {f : Nat → Int} {c : Int} : ∀ {n : Nat}, sm (fun j => c * f j) n = c * sm f n
  | 0 => (Int.mul_zero c).symm
  | n + 1 => by
    show sm (fun j => c * f j) n + c * f n = c * (sm f n + f n)
    rw [sm_mul, Int.mul_add]
theorem sm_zero {f : Nat → Int} : ∀ {n : Nat}, (∀ j, j < n → f j = 0) → sm f n = 0
  | 0, _ => rfl
  | n + 1, h => by
    show sm f n + f n = 0
    rw [sm_zero (fun j hj => h j (Nat.lt_succ_of_lt hj)), h n (Nat.lt_succ_self n)]; rfl
theorem sm_one {f : Nat → Int} {b : Nat} : ∀ {n : Nat}, b < n → (∀ j, j < n → j ≠ b → f j = 0) → sm f n = f b
  | 0, h, _ => absurd h (Nat.not_lt_zero b)
  | n + 1, h, z => by
    show sm f n + f n = f b
    by_cases e : b = n
    · subst e
      rw [sm_zero (fun j hj => z j (Nat.lt_succ_of_lt hj) (Nat.ne_of_lt hj)), Int.zero_add]
    · rw [sm_one (by omega) (fun j hj => z j (Nat.lt_succ_of_lt hj)), z n (Nat.lt_succ_self n) (fun q => e q.symm), Int.add_zero]
abbrev Vec := Nat → Int
structure Car (n : Nat) (W : Nat → Nat → Int) : Prop where
  dg : ∀ i, i < n → W i i = -2
  of : ∀ i j, i < n → j < n → i ≠ j → (W i j = 0 ∧ W j i = 0) ∨ (W i j = 1 ∧ W j i = 1) ∨ (W i j = 1 ∧ W j i = 2) ∨ (W i j = 2 ∧ W j i = 1) ∨ (W i j = 1 ∧ W j i = 3) ∨ (W i j = 3 ∧ W j i = 1) ∨ (W i j = 2 ∧ W j i = 2)
def eb (a : Nat) : Vec := fun j => if j = a then 1 else 0
def mv (x : Vec) (t : Int) (b : Nat) : Vec := fun j => if j = b then x j + t else x j
def pr (n : Nat) (W : Nat → Nat → Int) (b : Nat) (x : Vec) : Int := sm (fun a => W b a * x a) n
def sg (n : Nat) (W : Nat → Nat → Int) (b : Nat) (x : Vec) : Vec := mv x (pr n W b x) b
theorem mv_dif {x : Vec} {t : Int} {b j : Nat} : mv x t b j = x j + t * eb b j := by
  unfold mv eb
  by_cases h : j = b
  · rw [if_pos h, if_pos h, Int.mul_one]
  · rw [if_neg h, if_neg h, Int.mul_zero, Int.add_zero]
theorem sm_eb {f : Nat → Int} {b n : Nat} (h : b < n) : sm (fun j => f j * eb b j) n = f b := by
  rw [sm_one h (fun j _ e => by unfold eb; rw [if_neg e, Int.mul_zero])]
  unfold eb
  rw [if_pos rfl, Int.mul_one]
section
variable {n : Nat} {W : Nat → Nat → Int}
theorem pr_mv {c b : Nat} {x : Vec} {t : Int} (hb : b < n) : pr n W c (mv x t b) = pr n W c x + W c b * t := by
  unfold pr
  rw [sm_congr (g := fun a => W c a * x a + t * (W c a * eb b a)) (fun j _ => by rw [mv_dif, Int.mul_add, Int.mul_left_comm]), sm_add, sm_mul, sm_eb hb, Int.mul_comm t]
theorem sm_mv {b : Nat} {x : Vec} {t : Int} (hb : b < n) : sm (mv x t b) n = sm x n + t := by
  rw [sm_congr (g := fun a => x a + t * (1 * eb b a)) (fun j _ => by rw [mv_dif, Int.one_mul]), sm_add, sm_mul, sm_eb (f := fun _ => 1) hb, Int.mul_one]
theorem pr_eb {a b : Nat} (ha : a < n) : pr n W b (eb a) = W b a := sm_eb ha
theorem mv_mv {x : Vec} {s t : Int} {b : Nat} : mv (mv x s b) t b = mv x (s + t) b := by
  funext j
  unfold mv
  by_cases h : j = b
  · rw [if_pos h, if_pos h, if_pos h, Int.add_assoc]
  · rw [if_neg h, if_neg h, if_neg h]
theorem mv_zero {x : Vec} {b : Nat} : mv x 0 b = x := by
  funext j
  unfold mv
  by_cases h : j = b
  · rw [if_pos h, Int.add_zero]
  · rw [if_neg h]
theorem mv_comm {x : Vec} {s t : Int} {b c : Nat} (h : b ≠ c) : mv (mv x s b) t c = mv (mv x t c) s b := by
  funext j
  unfold mv
  by_cases h1 : j = b
  · subst h1
    rw [if_neg h, if_pos rfl, if_pos rfl, if_neg h]
  · by_cases h2 : j = c
    · subst h2
      rw [if_pos rfl, if_neg h1, if_neg h1, if_pos rfl]
    · rw [if_neg h2, if_neg h1, if_neg h1, if_neg h2]
theorem sg_sg (C : Car n W) {b : Nat} {x : Vec} (hb : b < n) : sg n W b (sg n W b x) = x := by
  unfold sg
  rw [pr_mv hb, C.dg b hb, mv_mv]
  rw [show pr n W b x + (pr n W b x + -2 * pr n W b x) = 0 by omega, mv_zero]
theorem pr_sg (C : Car n W) {b : Nat} {x : Vec} (hb : b < n) : pr n W b (sg n W b x) = - pr n W b x := by
  unfold sg
  rw [pr_mv hb, C.dg b hb]
  omega
inductive Pos (n : Nat) (W : Nat → Nat → Int) : Vec → Prop
  | eb {a : Nat} : a < n → Pos n W (eb a)
  | up {x : Vec} {b : Nat} : Pos n W x → b < n → 0 < pr n W b x → Pos n W (sg n W b x)
theorem Pos.nn {x : Vec} (h : Pos n W x) : ∀ j, 0 ≤ x j := by
  induction h with
  | eb ha => intro j; unfold TT.eb; split <;> decide
  | up h hb hp ih =>
    intro j
    have := ih j
    unfold sg mv
    split <;> omega
theorem Pos.ht {x : Vec} (h : Pos n W x) : 1 ≤ sm x n := by
  induction h with
  | eb ha =>
    rename_i a
    have : sm (TT.eb a) n = 1 := by
      have := sm_eb (f := fun _ => (1 : Int)) ha
      simpa using this
    omega
  | up h hb hp ih =>
    unfold sg
    rw [sm_mv hb]
    omega
end
theorem r2_00 {A Eb : Int → Int → Prop} {P Q : Int} (hP : P < 0) (hQ : Q < 0) (R1 : ∀ s t s', A s t → s + t < 0 → P - 2 * s + 0 * t < 0 → s' = s + (P - 2 * s + 0 * t) → (P - 2 * s + 0 * t = -2 ∧ Q + 0 * s - 2 * t = 0 ∧ Eb s t) ∨ A s' t)
    (R2 : ∀ s t t', A s t → s + t < 0 → Q + 0 * s - 2 * t < 0 → t' = t + (Q + 0 * s - 2 * t) → (Q + 0 * s - 2 * t = -2 ∧ P - 2 * s + 0 * t = 0) ∨ A s t') (U1 : ∀ s t s', A s t → 0 < P - 2 * s + 0 * t → s' = s + (P - 2 * s + 0 * t) → A s' t) (U2 : ∀ s t t', A s t → 0 < Q + 0 * s - 2 * t → t' = t + (Q + 0 * s - 2 * t) → A s t') (A0 : A 0 Q) : A P 0 := by
  have h0 : A (0 * P + 0 * Q) (0 * P + 1 * Q) := by rw [show (0 * P + 0 * Q) = (0 : Int) by omega, show (0 * P + 1 * Q) = Q by omega]; exact A0
  rcases R1 (0 * P + 0 * Q) (0 * P + 1 * Q) (1 * P + 0 * Q) h0 (by omega) (by omega) (by omega) with ⟨_, _, _⟩ | h1
  · omega
  have h2 := U2 (1 * P + 0 * Q) (0 * P + 1 * Q) (0 * P + 0 * Q) h1 (by omega) (by omega)
  rw [show (1 * P + 0 * Q) = P by omega, show (0 * P + 0 * Q) = (0 : Int) by omega] at h2
  exact h2
theorem r2_11 {A Eb : Int → Int → Prop} {P Q : Int} (hP : P < 0) (hQ : Q < 0) (R1 : ∀ s t s', A s t → s + t < 0 → P - 2 * s + 1 * t < 0 → s' = s + (P - 2 * s + 1 * t) → (P - 2 * s + 1 * t = -2 ∧ Q + 1 * s - 2 * t = 1 ∧ Eb s t) ∨ A s' t)
    (R2 : ∀ s t t', A s t → s + t < 0 → Q + 1 * s - 2 * t < 0 → t' = t + (Q + 1 * s - 2 * t) → (Q + 1 * s - 2 * t = -2 ∧ P - 2 * s + 1 * t = 1) ∨ A s t') (U1 : ∀ s t s', A s t → 0 < P - 2 * s + 1 * t → s' = s + (P - 2 * s + 1 * t) → A s' t) (U2 : ∀ s t t', A s t → 0 < Q + 1 * s - 2 * t → t' = t + (Q + 1 * s - 2 * t) → A s t') (A0 : A 0 Q) (X : Eb 0 Q → A P 0) : A P 0 := by
  have h0 : A (0 * P + 0 * Q) (0 * P + 1 * Q) := by rw [show (0 * P + 0 * Q) = (0 : Int) by omega, show (0 * P + 1 * Q) = Q by omega]; exact A0
  rcases R1 (0 * P + 0 * Q) (0 * P + 1 * Q) (1 * P + 1 * Q) h0 (by omega) (by omega) (by omega) with ⟨_, _, e⟩ | h1
  · rw [show (0 * P + 0 * Q) = (0 : Int) by omega, show (0 * P + 1 * Q) = Q by omega] at e; exact X e
  rcases R2 (1 * P + 1 * Q) (0 * P + 1 * Q) (1 * P + 1 * Q) h1 (by omega) (by omega) (by omega) with ⟨_, _⟩ | h2
  · omega
  have h3 := U1 (1 * P + 1 * Q) (1 * P + 1 * Q) (1 * P + 0 * Q) h2 (by omega) (by omega)
  have h4 := U2 (1 * P + 0 * Q) (1 * P + 1 * Q) (0 * P + 0 * Q) h3 (by omega) (by omega)
  rw [show (1 * P + 0 * Q) = P by omega, show (0 * P + 0 * Q) = (0 : Int) by omega] at h4
  exact h4
theorem r2_12 {A Eb : Int → Int → Prop} {P Q : Int} (hP : P < 0) (hQ : Q < 0) (R1 : ∀ s t s', A s t → s + t < 0 → P - 2 * s + 1 * t < 0 → s' = s + (P - 2 * s + 1 * t) → (P - 2 * s + 1 * t = -2 ∧ Q + 2 * s - 2 * t = 2 ∧ Eb s t) ∨ A s' t)
    (R2 : ∀ s t t', A s t → s + t < 0 → Q + 2 * s - 2 * t < 0 → t' = t + (Q + 2 * s - 2 * t) → (Q + 2 * s - 2 * t = -2 ∧ P - 2 * s + 1 * t = 1) ∨ A s t') (U1 : ∀ s t s', A s t → 0 < P - 2 * s + 1 * t → s' = s + (P - 2 * s + 1 * t) → A s' t) (U2 : ∀ s t t', A s t → 0 < Q + 2 * s - 2 * t → t' = t + (Q + 2 * s - 2 * t) → A s t') (A0 : A 0 Q) : A P 0 := by
  have h0 : A (0 * P + 0 * Q) (0 * P + 1 * Q) := by rw [show (0 * P + 0 * Q) = (0 : Int) by omega, show (0 * P + 1 * Q) = Q by omega]; exact A0
  rcases R1 (0 * P + 0 * Q) (0 * P + 1 * Q) (1 * P + 1 * Q) h0 (by omega) (by omega) (by omega) with ⟨_, _, _⟩ | h1
  · omega
  rcases R2 (1 * P + 1 * Q) (0 * P + 1 * Q) (2 * P + 2 * Q) h1 (by omega) (by omega) (by omega) with ⟨_, _⟩ | h2
  · omega
  rcases R1 (1 * P + 1 * Q) (2 * P + 2 * Q) (2 * P + 1 * Q) h2 (by omega) (by omega) (by omega) with ⟨_, _, _⟩ | h3
  · omega
  have h4 := U2 (2 * P + 1 * Q) (2 * P + 2 * Q) (2 * P + 1 * Q) h3 (by omega) (by omega)
  have h5 := U1 (2 * P + 1 * Q) (2 * P + 1 * Q) (1 * P + 0 * Q) h4 (by omega) (by omega)
  have h6 := U2 (1 * P + 0 * Q) (2 * P + 1 * Q) (0 * P + 0 * Q) h5 (by omega) (by omega)
  rw [show (1 * P + 0 * Q) = P by omega, show (0 * P + 0 * Q) = (0 : Int) by omega] at h6
  exact h6
theorem r2_21 {A Eb : Int → Int → Prop} {P Q : Int} (hP : P < 0) (hQ : Q < 0) (R1 : ∀ s t s', A s t → s + t < 0 → P - 2 * s + 2 * t < 0 → s' = s + (P - 2 * s + 2 * t) → (P - 2 * s + 2 * t = -2 ∧ Q + 1 * s - 2 * t = 1 ∧ Eb s t) ∨ A s' t)
    (R2 : ∀ s t t', A s t → s + t < 0 → Q + 1 * s - 2 * t < 0 → t' = t + (Q + 1 * s - 2 * t) → (Q + 1 * s - 2 * t = -2 ∧ P - 2 * s + 2 * t = 2) ∨ A s t') (U1 : ∀ s t s', A s t → 0 < P - 2 * s + 2 * t → s' = s + (P - 2 * s + 2 * t) → A s' t) (U2 : ∀ s t t', A s t → 0 < Q + 1 * s - 2 * t → t' = t + (Q + 1 * s - 2 * t) → A s t') (A0 : A 0 Q) : A P 0 := by
  have h0 : A (0 * P + 0 * Q) (0 * P + 1 * Q) := by rw [show (0 * P + 0 * Q) = (0 : Int) by omega, show (0 * P + 1 * Q) = Q by omega]; exact A0
  rcases R1 (0 * P + 0 * Q) (0 * P + 1 * Q) (1 * P + 2 * Q) h0 (by omega) (by omega) (by omega) with ⟨_, _, _⟩ | h1
  · omega
  rcases R2 (1 * P + 2 * Q) (0 * P + 1 * Q) (1 * P + 2 * Q) h1 (by omega) (by omega) (by omega) with ⟨_, _⟩ | h2
  · omega
  rcases R1 (1 * P + 2 * Q) (1 * P + 2 * Q) (2 * P + 2 * Q) h2 (by omega) (by omega) (by omega) with ⟨_, _, _⟩ | h3
  · omega
  have h4 := U2 (2 * P + 2 * Q) (1 * P + 2 * Q) (1 * P + 1 * Q) h3 (by omega) (by omega)
  have h5 := U1 (2 * P + 2 * Q) (1 * P + 1 * Q) (1 * P + 0 * Q) h4 (by omega) (by omega)
  have h6 := U2 (1 * P + 0 * Q) (1 * P + 1 * Q) (0 * P + 0 * Q) h5 (by omega) (by omega)
  rw [show (1 * P + 0 * Q) = P by omega, show (0 * P + 0 * Q) = (0 : Int) by omega] at h6
  exact h6
theorem r2_13 {A Eb : Int → Int → Prop} {P Q : Int} (hP : P < 0) (hQ : Q < 0) (R1 : ∀ s t s', A s t → s + t < 0 → P - 2 * s + 1 * t < 0 → s' = s + (P - 2 * s + 1 * t) → (P - 2 * s + 1 * t = -2 ∧ Q + 3 * s - 2 * t = 3 ∧ Eb s t) ∨ A s' t)
    (R2 : ∀ s t t', A s t → s + t < 0 → Q + 3 * s - 2 * t < 0 → t' = t + (Q + 3 * s - 2 * t) → (Q + 3 * s - 2 * t = -2 ∧ P - 2 * s + 1 * t = 1) ∨ A s t') (U1 : ∀ s t s', A s t → 0 < P - 2 * s + 1 * t → s' = s + (P - 2 * s + 1 * t) → A s' t) (U2 : ∀ s t t', A s t → 0 < Q + 3 * s - 2 * t → t' = t + (Q + 3 * s - 2 * t) → A s t') (A0 : A 0 Q) : A P 0 := by
  have h0 : A (0 * P + 0 * Q) (0 * P + 1 * Q) := by rw [show (0 * P + 0 * Q) = (0 : Int) by omega, show (0 * P + 1 * Q) = Q by omega]; exact A0
  rcases R1 (0 * P + 0 * Q) (0 * P + 1 * Q) (1 * P + 1 * Q) h0 (by omega) (by omega) (by omega) with ⟨_, _, _⟩ | h1
  · omega
  rcases R2 (1 * P + 1 * Q) (0 * P + 1 * Q) (3 * P + 3 * Q) h1 (by omega) (by omega) (by omega) with ⟨_, _⟩ | h2
  · omega
  rcases R1 (1 * P + 1 * Q) (3 * P + 3 * Q) (3 * P + 2 * Q) h2 (by omega) (by omega) (by omega) with ⟨_, _, _⟩ | h3
  · omega
  rcases R2 (3 * P + 2 * Q) (3 * P + 3 * Q) (6 * P + 4 * Q) h3 (by omega) (by omega) (by omega) with ⟨_, _⟩ | h4
  · omega
  rcases R1 (3 * P + 2 * Q) (6 * P + 4 * Q) (4 * P + 2 * Q) h4 (by omega) (by omega) (by omega) with ⟨_, _, _⟩ | h5
  · omega
  have h6 := U2 (4 * P + 2 * Q) (6 * P + 4 * Q) (6 * P + 3 * Q) h5 (by omega) (by omega)
  have h7 := U1 (4 * P + 2 * Q) (6 * P + 3 * Q) (3 * P + 1 * Q) h6 (by omega) (by omega)
  have h8 := U2 (3 * P + 1 * Q) (6 * P + 3 * Q) (3 * P + 1 * Q) h7 (by omega) (by omega)
  have h9 := U1 (3 * P + 1 * Q) (3 * P + 1 * Q) (1 * P + 0 * Q) h8 (by omega) (by omega)
  have h10 := U2 (1 * P + 0 * Q) (3 * P + 1 * Q) (0 * P + 0 * Q) h9 (by omega) (by omega)
  rw [show (1 * P + 0 * Q) = P by omega, show (0 * P + 0 * Q) = (0 : Int) by omega] at h10
  exact h10
theorem r2_31 {A Eb : Int → Int → Prop} {P Q : Int} (hP : P < 0) (hQ : Q < 0) (R1 : ∀ s t s', A s t → s + t < 0 → P - 2 * s + 3 * t < 0 → s' = s + (P - 2 * s + 3 * t) → (P - 2 * s + 3 * t = -2 ∧ Q + 1 * s - 2 * t = 1 ∧ Eb s t) ∨ A s' t)
    (R2 : ∀ s t t', A s t → s + t < 0 → Q + 1 * s - 2 * t < 0 → t' = t + (Q + 1 * s - 2 * t) → (Q + 1 * s - 2 * t = -2 ∧ P - 2 * s + 3 * t = 3) ∨ A s t') (U1 : ∀ s t s', A s t → 0 < P - 2 * s + 3 * t → s' = s + (P - 2 * s + 3 * t) → A s' t) (U2 : ∀ s t t', A s t → 0 < Q + 1 * s - 2 * t → t' = t + (Q + 1 * s - 2 * t) → A s t') (A0 : A 0 Q) : A P 0 := by
  have h0 : A (0 * P + 0 * Q) (0 * P + 1 * Q) := by rw [show (0 * P + 0 * Q) = (0 : Int) by omega, show (0 * P + 1 * Q) = Q by omega]; exact A0
  rcases R1 (0 * P + 0 * Q) (0 * P + 1 * Q) (1 * P + 3 * Q) h0 (by omega) (by omega) (by omega) with ⟨_, _, _⟩ | h1
  · omega
  rcases R2 (1 * P + 3 * Q) (0 * P + 1 * Q) (1 * P + 3 * Q) h1 (by omega) (by omega) (by omega) with ⟨_, _⟩ | h2
  · omega
  rcases R1 (1 * P + 3 * Q) (1 * P + 3 * Q) (3 * P + 6 * Q) h2 (by omega) (by omega) (by omega) with ⟨_, _, _⟩ | h3
  · omega
  rcases R2 (3 * P + 6 * Q) (1 * P + 3 * Q) (2 * P + 4 * Q) h3 (by omega) (by omega) (by omega) with ⟨_, _⟩ | h4
  · omega
  rcases R1 (3 * P + 6 * Q) (2 * P + 4 * Q) (4 * P + 6 * Q) h4 (by omega) (by omega) (by omega) with ⟨_, _, _⟩ | h5
  · omega
  have h6 := U2 (4 * P + 6 * Q) (2 * P + 4 * Q) (2 * P + 3 * Q) h5 (by omega) (by omega)
  have h7 := U1 (4 * P + 6 * Q) (2 * P + 3 * Q) (3 * P + 3 * Q) h6 (by omega) (by omega)
  have h8 := U2 (3 * P + 3 * Q) (2 * P + 3 * Q) (1 * P + 1 * Q) h7 (by omega) (by omega)
  have h9 := U1 (3 * P + 3 * Q) (1 * P + 1 * Q) (1 * P + 0 * Q) h8 (by omega) (by omega)
  have h10 := U2 (1 * P + 0 * Q) (1 * P + 1 * Q) (0 * P + 0 * Q) h9 (by omega) (by omega)
  rw [show (1 * P + 0 * Q) = P by omega, show (0 * P + 0 * Q) = (0 : Int) by omega] at h10
  exact h10
section
variable {n : Nat} {W : Nat → Nat → Int}
theorem W_nn (C : Car n W) {a b : Nat} (ha : a < n) (hb : b < n) (h : a ≠ b) : 0 ≤ W a b := by
  rcases C.of a b ha hb h with h | h | h | h | h | h | h <;> omega
theorem no_inf (C : Car n W) {b c : Nat} (hb : b < n) (hc : c < n) (hbc : W b c = 2) (hcb : W c b = 2) {N : Nat} (IH : ∀ x, Pos n W x → sm x n < N → ∀ b, b < n → x = eb b ∨ Pos n W (sg n W b x)) :
    ∀ (k : Nat) (z : Vec), Pos n W z → sm z n < N → sm z n < k → pr n W b z + pr n W c z < 0 → False
  | 0, z, hz, _, hk, _ => by have := hz.ht; omega
  | k + 1, z, hz, hN, hk, hs => by
    by_cases h : pr n W b z < 0
    · rcases IH z hz hN b hb with e | h2
      · rw [e, pr_eb hb, pr_eb hb, C.dg b hb, hcb] at hs
        omega
      · refine no_inf C hb hc hbc hcb IH k _ h2 ?_ ?_ ?_
        · unfold sg; rw [sm_mv hb]; omega
        · unfold sg; rw [sm_mv hb]; omega
        · rw [pr_sg C hb]
          unfold sg
          rw [pr_mv hb, hcb]
          omega
    · have h : pr n W c z < 0 := by omega
      rcases IH z hz hN c hc with e | h2
      · rw [e, pr_eb hc, pr_eb hc, C.dg c hc, hbc] at hs
        omega
      · refine no_inf C hb hc hbc hcb IH k _ h2 ?_ ?_ ?_
        · unfold sg; rw [sm_mv hc]; omega
        · unfold sg; rw [sm_mv hc]; omega
        · rw [pr_sg C hc]
          unfold sg
          rw [pr_mv hc, hbc]
          omega
abbrev VV (x : Vec) (b c : Nat) (s t : Int) : Vec := mv (mv x s b) t c
theorem pos_sg (C : Car n W) : ∀ (N : Nat) (x : Vec), Pos n W x → sm x n < N → ∀ b, b < n → x = eb b ∨ Pos n W (sg n W b x)
  | 0, x, hx, h, _, _ => by have := hx.ht; omega
  | N + 1, x, hx, hN, b, hb => by
    by_cases p1 : 0 < pr n W b x
    · exact .inr (.up hx hb p1)
    by_cases p2 : pr n W b x = 0
    · right
      unfold sg
      rw [p2, mv_zero]
      exact hx
    have hP : pr n W b x < 0 := by omega
    cases hx with
    | eb ha =>
      rename_i a
      rw [pr_eb ha] at hP
      by_cases e : b = a
      · exact .inl (by rw [e])
      · have := W_nn C hb ha e
        omega
    | up hy hc hq =>
      rename_i y c
      by_cases e : c = b
      · subst e
        right
        rw [sg_sg C hc]
        exact hy
      · have hx : Pos n W (sg n W c y) := .up hy hc hq
        have ey : y = sg n W c (sg n W c y) := (sg_sg C hc).symm
        have hQ : pr n W c (sg n W c y) < 0 := by rw [pr_sg C hc]; omega
        have hyx : sm y n < sm (sg n W c y) n := by unfold sg; rw [sm_mv hc]; omega
        rw [ey] at hy
        rw [ey] at hyx
        rw [sg_sg C hc] at hyx
        clear hq
        generalize hX : sg n W c y = x at *
        clear hX ey
        generalize hPP : pr n W b x = P at *
        generalize hQQ : pr n W c x = Q at *
        have IH := pos_sg C N
        right
        have nbc : b ≠ c := fun z => e z.symm
        have ne : c ≠ b := e
        have hV : ∀ s t, pr n W b (VV x b c s t) = P - 2 * s + W b c * t := fun s t => by
          rw [pr_mv hc, pr_mv hb, C.dg b hb, hPP]; omega
        have hW : ∀ s t, pr n W c (VV x b c s t) = Q + W c b * s - 2 * t := fun s t => by
          rw [pr_mv hc, pr_mv hb, C.dg c hc, hQQ]; omega
        have hS : ∀ s t, sm (VV x b c s t) n = sm x n + s + t := fun s t => by rw [sm_mv hc, sm_mv hb]
        have hB : ∀ s t, sg n W b (VV x b c s t) = VV x b c (s + (P - 2 * s + W b c * t)) t := fun s t => by
          unfold sg
          rw [hV, mv_comm ne, mv_mv]
        have hC : ∀ s t, sg n W c (VV x b c s t) = VV x b c s (t + (Q + W c b * s - 2 * t)) := fun s t => by
          unfold sg
          rw [hW, mv_mv]
        have e0 : sg n W c x = VV x b c 0 Q := by
          show mv x _ c = mv (mv x 0 b) Q c
          rw [mv_zero, hQQ]
        have e1 : sg n W b x = VV x b c P 0 := by
          show mv x _ b = mv (mv x P b) 0 c
          rw [mv_zero, hPP]
        rw [e0] at hy
        rw [e1]
        have R1 : ∀ s t s', Pos n W (VV x b c s t) → s + t < 0 → P - 2 * s + W b c * t < 0 → s' = s + (P - 2 * s + W b c * t) → (P - 2 * s + W b c * t = -2 ∧ Q + W c b * s - 2 * t = W c b ∧ VV x b c s t = eb b) ∨ Pos n W (VV x b c s' t) := fun s t s' h1 h2 h3 h4 => by
          rcases IH _ h1 (by rw [hS]; omega) b hb with h | h
          · left
            refine ⟨?_, ?_, h⟩
            · rw [← hV, h, pr_eb hb, C.dg b hb]
            · rw [← hW, h, pr_eb hb]
          · right
            rw [hB] at h
            rw [h4]
            exact h
        have R2 : ∀ s t t', Pos n W (VV x b c s t) → s + t < 0 → Q + W c b * s - 2 * t < 0 → t' = t + (Q + W c b * s - 2 * t) → (Q + W c b * s - 2 * t = -2 ∧ P - 2 * s + W b c * t = W b c) ∨ Pos n W (VV x b c s t') := fun s t t' h1 h2 h3 h4 => by
          rcases IH _ h1 (by rw [hS]; omega) c hc with h | h
          · left
            refine ⟨?_, ?_⟩
            · rw [← hW, h, pr_eb hc, C.dg c hc]
            · rw [← hV, h, pr_eb hc]
          · right
            rw [hC] at h
            rw [h4]
            exact h
        have U1 : ∀ s t s', Pos n W (VV x b c s t) → 0 < P - 2 * s + W b c * t → s' = s + (P - 2 * s + W b c * t) → Pos n W (VV x b c s' t) := fun s t s' h1 h2 h3 => by
          have := Pos.up h1 hb (by rw [hV]; exact h2)
          rw [hB] at this
          rw [h3]
          exact this
        have U2 : ∀ s t t', Pos n W (VV x b c s t) → 0 < Q + W c b * s - 2 * t → t' = t + (Q + W c b * s - 2 * t) → Pos n W (VV x b c s t') := fun s t t' h1 h2 h3 => by
          have := Pos.up h1 hc (by rw [hW]; exact h2)
          rw [hC] at this
          rw [h3]
          exact this
        rcases C.of b c hb hc nbc with ⟨u, v⟩ | ⟨u, v⟩ | ⟨u, v⟩ | ⟨u, v⟩ | ⟨u, v⟩ | ⟨u, v⟩ | ⟨u, v⟩
        · rw [u] at R1 R2 U1; rw [v] at R1 R2 U2; exact r2_00 (A := fun s t => Pos n W (VV x b c s t)) hP hQ R1 R2 U1 U2 hy
        · rw [u] at R1 R2 U1; rw [v] at R1 R2 U2
          refine r2_11 (A := fun s t => Pos n W (VV x b c s t)) hP hQ R1 R2 U1 U2 hy fun h => ?_
          have hv := hV 0 Q
          have hw := hW 0 Q
          rw [h, pr_eb hb, C.dg b hb, u] at hv
          rw [h, pr_eb hb, v] at hw
          have ec : VV x b c P 0 = eb c := by
            funext j
            have hj := congrFun h j
            unfold VV mv eb at hj
            unfold VV mv eb
            by_cases j1 : j = b
            · subst j1
              rw [if_neg nbc, if_pos rfl, if_pos rfl] at hj
              rw [if_neg nbc, if_pos rfl, if_neg nbc]
              omega
            · by_cases j2 : j = c
              · subst j2
                rw [if_pos rfl, if_neg ne, if_neg ne] at hj
                rw [if_pos rfl, if_neg ne, if_pos rfl]
                omega
              · rw [if_neg j2, if_neg j1, if_neg j1] at hj
                rw [if_neg j2, if_neg j1, if_neg j2]
                exact hj
          show Pos n W (VV x b c P 0)
          rw [ec]
          exact .eb hc
        · rw [u] at R1 R2 U1; rw [v] at R1 R2 U2; exact r2_12 (A := fun s t => Pos n W (VV x b c s t)) hP hQ R1 R2 U1 U2 hy
        · rw [u] at R1 R2 U1; rw [v] at R1 R2 U2; exact r2_21 (A := fun s t => Pos n W (VV x b c s t)) hP hQ R1 R2 U1 U2 hy
        · rw [u] at R1 R2 U1; rw [v] at R1 R2 U2; exact r2_13 (A := fun s t => Pos n W (VV x b c s t)) hP hQ R1 R2 U1 U2 hy
        · rw [u] at R1 R2 U1; rw [v] at R1 R2 U2; exact r2_31 (A := fun s t => Pos n W (VV x b c s t)) hP hQ R1 R2 U1 U2 hy
        · refine (no_inf C hb hc u v IH N _ hy ?_ ?_ ?_).elim
          · rw [hS]; omega
          · rw [hS]; omega
          · rw [hV, hW, u, v]; omega
end
end TT
namespace TT
def lc (x : Vec) (t : Int) (y : Vec) : Vec := fun j => x j + t * y j
def zv : Vec := fun _ => 0
def neg (x : Vec) : Vec := lc zv (-1) x
theorem neg_at {x : Vec} {j : Nat} : neg x j = - x j := by unfold neg lc zv; omega
theorem neg_neg {x : Vec} : neg (neg x) = x := by funext j; rw [neg_at, neg_at]; omega
theorem mv_lc {x : Vec} {t : Int} {b : Nat} : mv x t b = lc x t (eb b) := by funext j; exact mv_dif
section
variable {n : Nat} {W : Nat → Nat → Int}
theorem sm_lc {x y : Vec} {t : Int} : sm (lc x t y) n = sm x n + t * sm y n := by
  show sm (fun j => x j + t * y j) n = _
  rw [sm_add, sm_mul]
theorem pr_lc {b : Nat} {x y : Vec} {t : Int} : pr n W b (lc x t y) = pr n W b x + t * pr n W b y := by
  unfold pr lc
  rw [sm_congr (g := fun a => W b a * x a + t * (W b a * y a)) (fun j _ => by rw [Int.mul_add, Int.mul_left_comm]), sm_add, sm_mul]
theorem sg_lc {b : Nat} {x y : Vec} {t : Int} : sg n W b (lc x t y) = lc (sg n W b x) t (sg n W b y) := by
  funext j
  unfold sg
  rw [pr_lc]
  unfold mv lc
  dsimp only
  by_cases h : j = b
  · rw [if_pos h, if_pos h, if_pos h, Int.mul_add]; omega
  · rw [if_neg h, if_neg h, if_neg h]
def act (n : Nat) (W : Nat → Nat → Int) (w : List Nat) (x : Vec) : Vec := w.foldr (sg n W) x
def lets (n : Nat) (w : List Nat) : Prop := ∀ a ∈ w, a < n
theorem act_app {u v : List Nat} {x : Vec} : act n W (u ++ v) x = act n W u (act n W v x) := by unfold act; rw [List.foldr_append]
theorem act_lc {x y : Vec} {t : Int} : ∀ {w : List Nat}, act n W w (lc x t y) = lc (act n W w x) t (act n W w y)
  | [] => rfl
  | b :: w => by
    show sg n W b (act n W w _) = _
    rw [act_lc, sg_lc]; rfl
theorem lc_zz {t : Int} : lc zv t zv = zv := by funext j; unfold lc zv; omega
theorem sg_zv {b : Nat} : sg n W b zv = zv := by
  unfold sg
  rw [show pr n W b zv = 0 from sm_zero fun j _ => by unfold zv; omega, mv_zero]
theorem act_zv : ∀ {w : List Nat}, act n W w zv = zv
  | [] => rfl
  | b :: w => by
    show sg n W b (act n W w zv) = zv
    rw [act_zv, sg_zv]
theorem act_neg {w : List Nat} {x : Vec} : act n W w (neg x) = neg (act n W w x) := by
  unfold neg
  rw [act_lc, act_zv]
theorem sg_neg {b : Nat} {x : Vec} : sg n W b (neg x) = neg (sg n W b x) := act_neg (w := [b])
theorem sg_eb (C : Car n W) {b : Nat} (hb : b < n) : sg n W b (eb b) = neg (eb b) := by
  funext j
  unfold sg
  rw [pr_eb hb, C.dg b hb, mv_dif, neg_at]
  omega
def supp (n : Nat) (x : Vec) : Prop := ∀ j, n ≤ j → x j = 0
theorem supp_eb {a : Nat} (h : a < n) : supp n (eb a) := fun j hj => by unfold eb; rw [if_neg (by omega)]
theorem supp_sg {b : Nat} {x : Vec} (hb : b < n) (h : supp n x) : supp n (sg n W b x) := fun j hj => by
  unfold sg mv
  rw [if_neg (by omega)]
  exact h j hj
theorem supp_act {x : Vec} (h : supp n x) : ∀ {w : List Nat}, lets n w → supp n (act n W w x)
  | [], _ => h
  | b :: w, l => supp_sg (l b List.mem_cons_self) (supp_act h fun a ha => l a (List.mem_cons_of_mem _ ha))
theorem lets_app {u v : List Nat} : lets n (u ++ v) ↔ lets n u ∧ lets n v := by
  unfold lets
  constructor
  · exact fun h => ⟨fun a ha => h a (List.mem_append_left _ ha), fun a ha => h a (List.mem_append_right _ ha)⟩
  · exact fun h a ha => (List.mem_append.mp ha).elim (h.1 a) (h.2 a)
theorem lets_rev {u : List Nat} : lets n u.reverse ↔ lets n u := by
  unfold lets
  constructor
  · exact fun h a ha => h a (List.mem_reverse.mpr ha)
  · exact fun h a ha => h a (List.mem_reverse.mp ha)
theorem act_rev (C : Car n W) {x : Vec} : ∀ {w : List Nat}, lets n w → act n W w.reverse (act n W w x) = x
  | [], _ => rfl
  | b :: w, l => by
    rw [List.reverse_cons, act_app]
    show act n W w.reverse (sg n W b (sg n W b (act n W w x))) = x
    rw [sg_sg C (l b List.mem_cons_self)]
    exact act_rev C fun a ha => l a (List.mem_cons_of_mem _ ha)
theorem act_rev2 (C : Car n W) {x : Vec} {w : List Nat} (l : lets n w) : act n W w (act n W w.reverse x) = x := by
  have := act_rev C (x := x) (w := w.reverse) (lets_rev.mpr l)
  rw [List.reverse_reverse] at this
  exact this
theorem pos_sg1 (C : Car n W) {x : Vec} (h : Pos n W x) {b : Nat} (hb : b < n) : x = eb b ∨ Pos n W (sg n W b x) := pos_sg C ((sm x n).toNat + 1) x h (by omega) b hb
theorem sm_neg {x : Vec} : sm (neg x) n = - sm x n := by
  unfold neg
  rw [sm_lc, show sm zv n = 0 from sm_zero fun _ _ => rfl]
  omega
theorem not_both {x : Vec} (h : Pos n W x) (h2 : Pos n W (neg x)) : False := by
  have := h.ht
  have := h2.ht
  rw [sm_neg] at this
  omega
theorem sp_act (C : Car n W) {a : Nat} (ha : a < n) : ∀ {w : List Nat}, lets n w → Pos n W (act n W w (eb a)) ∨ Pos n W (neg (act n W w (eb a)))
  | [], _ => .inl (.eb ha)
  | b :: w, l => by
    have hb := l b List.mem_cons_self
    show Pos n W (sg n W b (act n W w (eb a))) ∨ Pos n W (neg (sg n W b (act n W w (eb a))))
    rcases sp_act C ha (w := w) fun a ha => l a (List.mem_cons_of_mem _ ha) with h | h
    · rcases pos_sg1 C h hb with e | h
      · rw [e, sg_eb C hb, neg_neg]
        exact .inr (.eb hb)
      · exact .inl h
    · rw [← sg_neg]
      rcases pos_sg1 C h hb with e | h
      · have e2 : act n W w (eb a) = neg (eb b) := by rw [← e, neg_neg]
        rw [e2, sg_neg, sg_eb C hb, neg_neg]
        exact .inl (.eb hb)
      · exact .inr h
theorem exch (C : Car n W) {a : Nat} (ha : a < n) : ∀ {w : List Nat}, lets n w → Pos n W (neg (act n W w (eb a))) → ∃ u b v, w = u ++ b :: v ∧ act n W v (eb a) = eb b
  | [], _, h => by
    have := h.nn a
    rw [neg_at] at this
    have e : act n W [] (eb a) a = 1 := by show eb a a = 1; unfold eb; rw [if_pos rfl]
    omega
  | b :: w, l, h => by
    have hb := l b List.mem_cons_self
    have lw : lets n w := fun a ha => l a (List.mem_cons_of_mem _ ha)
    rcases sp_act C ha lw with h1 | h1
    · rcases pos_sg1 C h1 hb with e | h2
      · exact ⟨[], b, w, rfl, e⟩
      · exact (not_both h2 h).elim
    · obtain ⟨u, b', v, e, e2⟩ := exch C ha lw h1
      exact ⟨b :: u, b', v, by rw [e]; rfl, e2⟩
theorem lin_ext {F : Vec → Int} (hl : ∀ x t y, F (lc x t y) = F x + t * F y) (he : ∀ c, c < n → F (eb c) = 0) : ∀ (m : Nat), m ≤ n → ∀ x : Vec, (∀ j, m ≤ j → x j = 0) → F x = 0
  | 0, _, x, h => by
    have e : x = zv := by funext j; exact h j (Nat.zero_le j)
    have := hl zv (-1) zv
    rw [lc_zz] at this
    rw [e]
    omega
  | m + 1, hm, x, h => by
    have e : x = lc (fun j => if j = m then 0 else x j) (x m) (eb m) := by
      funext j
      unfold lc eb
      dsimp only
      by_cases q : j = m
      · subst q
        rw [if_pos rfl, if_pos rfl]; omega
      · rw [if_neg q, if_neg q]; omega
    rw [e, hl, he m (by omega), lin_ext hl he m (by omega) (fun j => if j = m then 0 else x j) fun j hj => ?_]
    · omega
    · by_cases q : j = m
      · rw [if_pos q]
      · rw [if_neg q]
        exact h j (by omega)
theorem lin_eq {F G : Vec → Int} (hF : ∀ x t y, F (lc x t y) = F x + t * F y) (hG : ∀ x t y, G (lc x t y) = G x + t * G y) (he : ∀ c, c < n → F (eb c) = G (eb c)) {x : Vec} (hx : supp n x) : F x = G x := by
  have := lin_ext (n := n) (F := fun x => F x - G x) (fun x t y => by rw [hF, hG, Int.mul_sub]; omega) (fun c hc => by rw [he c hc]; omega) n (Nat.le_refl n) x hx
  omega
theorem conj (C : Car n W) {v : List Nat} {a b : Nat} (ha : a < n) (hb : b < n) (l : lets n v) (h : act n W v (eb a) = eb b) {x : Vec} (hx : supp n x) : sg n W b (act n W v (sg n W a x)) = act n W v x := by
  have sga : ∀ y, sg n W a y = lc y (pr n W a y) (eb a) := fun y => mv_lc
  have sgb : ∀ y, sg n W b y = lc y (pr n W b y) (eb b) := fun y => mv_lc
  have lr := lets_rev.mpr l
  have gx : ∀ y, act n W v (sg n W a (act n W v.reverse y)) = lc y (pr n W a (act n W v.reverse y)) (eb b) := fun y => by
    rw [sga, act_lc, h, act_rev2 C l]
  have fb : pr n W a (act n W v.reverse (eb b)) = -2 := by rw [← h, act_rev C l, pr_eb ha, C.dg a ha]
  have fl : ∀ x t y, pr n W a (act n W v.reverse (lc x t y)) = pr n W a (act n W v.reverse x) + t * pr n W a (act n W v.reverse y) := fun x t y => by rw [act_lc, pr_lc]
  have key : ∀ c, c < n → pr n W a (act n W v.reverse (eb c)) = pr n W b (eb c) := fun c hc => by
    by_cases e : c = b
    · subst e
      rw [fb, pr_eb hc, C.dg c hc]
    · have cb : (eb c) b = 0 := by unfold eb; rw [if_neg (fun z => e z.symm)]
      have cc : (eb c) c = 1 := by unfold eb; rw [if_pos rfl]
      have bb : (eb b) b = 1 := by unfold eb; rw [if_pos rfl]
      have bc : (eb b) c = 0 := by unfold eb; rw [if_neg e]
      have l1 : lets n (b :: (v ++ (a :: v.reverse))) := fun z hz => by
        rcases List.mem_cons.mp hz with rfl | hz
        · exact hb
        · rcases List.mem_append.mp hz with hz | hz
          · exact l z hz
          · rcases List.mem_cons.mp hz with rfl | hz
            · exact ha
            · exact lr z hz
      have l2 : lets n (v ++ (a :: (v.reverse ++ [b]))) := fun z hz => by
        rcases List.mem_append.mp hz with hz | hz
        · exact l z hz
        · rcases List.mem_cons.mp hz with rfl | hz
          · exact ha
          · rcases List.mem_append.mp hz with hz | hz
            · exact lr z hz
            · rcases List.mem_cons.mp hz with rfl | hz
              · exact hb
              · cases hz
      have z1 : act n W (b :: (v ++ (a :: v.reverse))) (eb c) = sg n W b (lc (eb c) (pr n W a (act n W v.reverse (eb c))) (eb b)) := by
        show sg n W b (act n W (v ++ (a :: v.reverse)) (eb c)) = _
        rw [act_app]
        show sg n W b (act n W v (sg n W a (act n W v.reverse (eb c)))) = _
        rw [gx]
      have z2 : act n W (v ++ (a :: (v.reverse ++ [b]))) (eb c) = lc (sg n W b (eb c)) (pr n W a (act n W v.reverse (sg n W b (eb c)))) (eb b) := by
        rw [act_app]
        show act n W v (sg n W a (act n W (v.reverse ++ [b]) (eb c))) = _
        rw [act_app]
        exact gx _
      have s1 := sp_act C hc l1
      have s2 := sp_act C hc l2
      rw [z1, sgb, pr_lc, pr_eb hc, pr_eb hb, C.dg b hb] at s1
      rw [z2, sgb, fl, fb, pr_eb hc] at s2
      rw [pr_eb hc]
      generalize pr n W a (act n W v.reverse (eb c)) = f at *
      have f1 : 0 ≤ W b c - f := by
        rcases s1 with s | s
        · have := s.nn b
          unfold lc at this
          rw [cb, bb] at this
          omega
        · have := s.nn c
          rw [neg_at] at this
          unfold lc at this
          rw [cc, bc] at this
          omega
      have f2 : 0 ≤ f - W b c := by
        rcases s2 with s | s
        · have := s.nn b
          unfold lc at this
          rw [cb, bb] at this
          omega
        · have := s.nn c
          rw [neg_at] at this
          unfold lc at this
          rw [cc, bc] at this
          omega
      omega
  have kx : pr n W a x = pr n W b (act n W v x) := by
    have := lin_eq (n := n) (F := fun x => pr n W a (act n W v.reverse x)) (G := fun x => pr n W b x) fl (fun x t y => pr_lc) key (x := act n W v x) (supp_act hx l)
    rw [act_rev C l] at this
    exact this
  rw [sga, act_lc, h, sgb, pr_lc, pr_eb hb, C.dg b hb, ← kx]
  funext j
  unfold lc
  generalize eb b j = z
  generalize pr n W a x = t
  rw [show t + t * -2 = -t by omega, Int.neg_mul]
  omega
theorem exch2 (C : Car n W) {a : Nat} (ha : a < n) {w : List Nat} (l : lets n w) (h : Pos n W (neg (act n W w (eb a)))) : ∃ u b v, w = u ++ b :: v ∧ ∀ x, supp n x → act n W (w ++ [a]) x = act n W (u ++ v) x := by
  obtain ⟨u, b, v, e, e2⟩ := exch C ha l h
  subst e
  have hb : b < n := l b (by simp)
  have lv : lets n v := fun z hz => l z (by simp [hz])
  refine ⟨u, b, v, rfl, fun x hx => ?_⟩
  rw [act_app, act_app]
  show act n W u (sg n W b (act n W v (sg n W a x))) = _
  rw [conj C ha hb lv e2 hx, act_app]
def hv (n : Nat) (W : Nat → Nat → Int) (w : List Nat) (a : Nat) : Int := sm (act n W w (eb a)) n
def Rw (n : Nat) (W : Nat → Nat → Int) (w v : List Nat) : Prop := ∀ c, c < n → hv n W w c = hv n W v c
theorem hv_neg_iff (C : Car n W) {a : Nat} (ha : a < n) {w : List Nat} (l : lets n w) : hv n W w a < 0 → Pos n W (neg (act n W w (eb a))) := fun h => by
  rcases sp_act C ha l with s | s
  · have := s.ht
    unfold hv at h
    omega
  · exact s
theorem hv_ne (C : Car n W) {a : Nat} (ha : a < n) {w : List Nat} (l : lets n w) : hv n W w a ≠ 0 := fun h => by
  unfold hv at h
  rcases sp_act C ha l with s | s
  · have := s.ht
    omega
  · have := s.ht
    rw [sm_neg] at this
    omega
theorem Rw.refl {w : List Nat} : Rw n W w w := fun _ _ => rfl
theorem Rw.symm {w v : List Nat} (h : Rw n W w v) : Rw n W v w := fun c hc => (h c hc).symm
theorem Rw.trans {u v w : List Nat} (h : Rw n W u v) (h2 : Rw n W v w) : Rw n W u w := fun c hc => (h c hc).trans (h2 c hc)
theorem Rw.sm {w v : List Nat} (h : Rw n W w v) {x : Vec} (hx : supp n x) : sm (act n W w x) n = sm (act n W v x) n :=
  lin_eq (n := n) (F := fun x => TT.sm (act n W w x) n) (G := fun x => TT.sm (act n W v x) n) (fun x t y => by rw [act_lc, sm_lc]) (fun x t y => by rw [act_lc, sm_lc]) h hx
theorem Rw.app {w v : List Nat} (h : Rw n W w v) {u : List Nat} (l : lets n u) : Rw n W (w ++ u) (v ++ u) := fun c hc => by
  unfold hv
  rw [act_app, act_app]
  exact h.sm (supp_act (supp_eb hc) l)
theorem hv_app_self (C : Car n W) {a : Nat} (ha : a < n) {w : List Nat} : hv n W (w ++ [a]) a = - hv n W w a := by
  unfold hv
  rw [act_app, show act n W [a] (eb a) = sg n W a (eb a) from rfl, sg_eb C ha, act_neg, sm_neg]
theorem Rw.twice (C : Car n W) {a : Nat} (ha : a < n) {w : List Nat} : Rw n W (w ++ [a] ++ [a]) w := fun c hc => by
  unfold hv
  rw [act_app, act_app]
  show TT.sm (act n W w (sg n W a (sg n W a (eb c)))) n = _
  rw [sg_sg C ha]
theorem Rw.of_map {w v : List Nat} (h : ∀ x, supp n x → act n W w x = act n W v x) : Rw n W w v := fun c hc => by unfold hv; rw [h _ (supp_eb hc)]
theorem hv_nil {c : Nat} (hc : c < n) : hv n W [] c = 1 := by
  unfold hv
  show sm (eb c) n = 1
  have := sm_eb (f := fun _ => (1 : Int)) hc
  simpa using this
theorem triv (C : Car n W) : ∀ (k : Nat) (w : List Nat), w.length = k → lets n w → (∀ c, c < n → hv n W w c = 1) → ∀ x, supp n x → act n W w x = x
  | k, w, hk, l, h, x, hx => by
    rcases List.eq_nil_or_concat w with rfl | ⟨w', a, e⟩
    · rfl
    · rw [List.concat_eq_append] at e
      subst e
      obtain ⟨lw, la⟩ := lets_app.mp l
      have ha := la a (by simp)
      have h1 := h a ha
      rw [hv_app_self C ha] at h1
      obtain ⟨u, b, v, e, hm⟩ := exch2 C ha lw (hv_neg_iff C ha lw (by omega))
      have luv : lets n (u ++ v) := by
        subst e
        exact fun z hz => lw z (by rcases List.mem_append.mp hz with q | q <;> simp [q])
      rw [hm x hx]
      have hl : (u ++ v).length < k := by
        subst e
        simp at hk ⊢
        omega
      refine triv C (u ++ v).length (u ++ v) rfl luv (fun c hc => ?_) x hx
      rw [← h c hc]
      unfold hv
      rw [hm _ (supp_eb hc)]
termination_by k => k
theorem Rw.map (C : Car n W) {w v : List Nat} (lw : lets n w) (lv : lets n v) (h : Rw n W w v) : ∀ x, supp n x → act n W w x = act n W v x := fun x hx => by
  have t := triv C _ (w ++ v.reverse) rfl (lets_app.mpr ⟨lw, lets_rev.mpr lv⟩) (fun c hc => by
    rw [h.app (lets_rev.mpr lv) c hc]
    unfold hv
    rw [act_app, act_rev2 C lv]
    exact hv_nil (W := W) hc) (act n W v x) (supp_act hx lv)
  rw [act_app, act_rev C lv] at t
  exact t
theorem Rw.rev (C : Car n W) {w v : List Nat} (lw : lets n w) (lv : lets n v) (h : Rw n W w v) : Rw n W w.reverse v.reverse := .of_map fun x hx => by
  have e := h.map C lw lv (act n W v.reverse x) (supp_act hx (lets_rev.mpr lv))
  rw [act_rev2 C lv] at e
  have e2 := congrArg (act n W w.reverse) e
  rw [act_rev C lw] at e2
  exact e2.symm
theorem min_ex (P : Nat → Prop) : ∀ k, P k → ∃ m, P m ∧ ∀ j, P j → m ≤ j
  | k, h => by
    by_cases q : ∃ j, j < k ∧ P j
    · obtain ⟨j, hj, pj⟩ := q
      exact min_ex P j pj
    · exact ⟨k, h, fun j hj => Nat.le_of_not_lt fun z => q ⟨j, z, hj⟩⟩
termination_by k => k
structure Ln (n : Nat) (W : Nat → Nat → Int) (w : List Nat) (k : Nat) : Prop where
  ex : ∃ v, lets n v ∧ v.length = k ∧ Rw n W v w
  le : ∀ v, lets n v → Rw n W v w → k ≤ v.length
theorem Ln.has {w : List Nat} (l : lets n w) : ∃ k, Ln n W w k := by
  obtain ⟨m, ⟨v, h1, h2, h3⟩, h4⟩ := min_ex (fun k => ∃ v, lets n v ∧ v.length = k ∧ Rw n W v w) w.length ⟨w, l, rfl, .refl⟩
  exact ⟨m, ⟨v, h1, h2, h3⟩, fun v a b => h4 _ ⟨v, a, rfl, b⟩⟩
theorem Ln.uniq {w : List Nat} {j k : Nat} (a : Ln n W w j) (b : Ln n W w k) : j = k := by
  obtain ⟨v, h1, h2, h3⟩ := a.ex
  obtain ⟨u, g1, g2, g3⟩ := b.ex
  have := a.le u g1 g3
  have := b.le v h1 h3
  omega
theorem Ln.cong {w v : List Nat} {k : Nat} (a : Ln n W w k) (h : Rw n W w v) : Ln n W v k := by
  obtain ⟨u, h1, h2, h3⟩ := a.ex
  exact ⟨⟨u, h1, h2, h3.trans h⟩, fun z l r => a.le z l (r.trans h.symm)⟩
theorem Ln.down (C : Car n W) {a : Nat} (ha : a < n) {w : List Nat} (l : lets n w) {k : Nat} (h : Ln n W w k) (hn : hv n W w a < 0) : ∃ j, k = j + 1 ∧ Ln n W (w ++ [a]) j := by
  obtain ⟨v, h1, h2, h3⟩ := h.ex
  have la : lets n [a] := fun z hz => by simp at hz; subst hz; exact ha
  obtain ⟨u, b, v', e, hm⟩ := exch2 C ha h1 (hv_neg_iff C ha h1 (by rw [h3 a ha]; exact hn))
  have luv : lets n (u ++ v') := by
    subst e
    exact fun z hz => h1 z (by rcases List.mem_append.mp hz with q | q <;> simp [q])
  have r1 : Rw n W (u ++ v') (w ++ [a]) := (Rw.of_map fun x hx => (hm x hx).symm).trans (h3.app la)
  have hl : (u ++ v').length + 1 = k := by subst e; simp at h2 ⊢; omega
  refine ⟨(u ++ v').length, hl.symm, ⟨u ++ v', luv, rfl, r1⟩, fun z lz rz => ?_⟩
  have := h.le (z ++ [a]) (lets_app.mpr ⟨lz, la⟩) ((rz.app la).trans (.twice C ha))
  rw [List.length_append] at this
  simp at this
  simp at hl ⊢
  omega
theorem Ln.up (C : Car n W) {a : Nat} (ha : a < n) {w : List Nat} (l : lets n w) {k : Nat} (h : Ln n W w k) (hn : 0 < hv n W w a) : Ln n W (w ++ [a]) (k + 1) := by
  have la : lets n [a] := fun z hz => by simp at hz; subst hz; exact ha
  obtain ⟨j, hj⟩ := Ln.has (W := W) (lets_app.mpr ⟨l, la⟩)
  obtain ⟨i, e, hi⟩ := hj.down C ha (lets_app.mpr ⟨l, la⟩) (by rw [hv_app_self C ha]; omega)
  have := (hi.cong (Rw.twice C ha)).uniq h
  subst this
  rw [← e]
  exact hj
theorem Ln.zero {w : List Nat} (h : Ln n W w 0) : ∀ c, c < n → hv n W w c = 1 := fun c hc => by
  obtain ⟨v, h1, h2, h3⟩ := h.ex
  obtain rfl : v = [] := List.eq_nil_of_length_eq_zero h2
  rw [← h3 c hc]
  exact hv_nil hc
theorem Ln.of_pos (C : Car n W) {w : List Nat} (l : lets n w) {k : Nat} (h : Ln n W w k) (hp : ∀ c, c < n → 0 < hv n W w c) : k = 0 := by
  obtain ⟨v, h1, h2, h3⟩ := h.ex
  rcases List.eq_nil_or_concat v with rfl | ⟨v', a, e⟩
  · exact h2.symm
  · rw [List.concat_eq_append] at e
    subst e
    obtain ⟨lv, la⟩ := lets_app.mp h1
    have ha := la a (by simp)
    have p := hp a ha
    rw [← h3 a ha, hv_app_self C ha] at p
    obtain ⟨j, hj⟩ := Ln.has (W := W) lv
    obtain ⟨i, e, hi⟩ := hj.down C ha lv (by omega)
    have e2 := (hi.cong h3).uniq h
    have := hj.le v' lv .refl
    simp at h2
    omega
theorem Ln.rev (C : Car n W) {w : List Nat} (l : lets n w) {k : Nat} (h : Ln n W w k) : Ln n W w.reverse k := by
  obtain ⟨v, h1, h2, h3⟩ := h.ex
  refine ⟨⟨v.reverse, lets_rev.mpr h1, by rw [List.length_reverse]; exact h2, h3.rev C h1 l⟩, fun z lz rz => ?_⟩
  have := h.le z.reverse (lets_rev.mpr lz) (by
    have := rz.rev C lz (lets_rev.mpr l)
    rw [List.reverse_reverse] at this
    exact this)
  rw [List.length_reverse] at this
  exact this
theorem Ln.le_len {w : List Nat} (l : lets n w) {k : Nat} (h : Ln n W w k) : k ≤ w.length := h.le w l .refl
end
end TT
namespace BW
open PySem L2 DL
theorem r_check_shape (X : List Addr) (ds : List D) (k : Nat) (R : D → Nat → Prop) (h : sp_check_shape ds k R) : t_check_shape (En R) (St0 false 2 ds X k) := by
  obtain ⟨T, rfl, ht, h⟩ := h
  have lo := ht.lo
  have hi := ht.hi
  refine ⟨_, rfl, _, _, _, rfl, rfl, rfl, _, rfl, iteF ⟨_, rfl, rfl, rfl, _, rfl, ?_⟩⟩
  rw [eqvI, List.length_map, decide_eq_false (by omega)]
  refine iteF ⟨_, rfl, _, rfl, ?_⟩
  rw [List.length_map, decide_eq_false (by omega)]
  refine iteF ⟨_, rfl, _, rfl, fun i s' => ∃ x, s' = ⟨X, [.dat (lM T), x], k⟩, ⟨_, rfl⟩, ?_, ?_⟩
  · rintro i d s' hd ⟨x, rfl⟩
    rw [List.getElem?_map] at hd
    obtain ⟨r, hr, rfl⟩ := Option.map_eq_some_iff.mp hd
    have hl : i < T.length := (List.getElem?_eq_some_iff.mp hr).1
    have hrl : r.length = T.length := by
      have := ht.sq i hl
      rw [List.getD_eq_getElem?_getD, hr] at this
      exact this
    refine ⟨_, rfl, _, _, _, rfl, rfl, rfl, _, rfl, iteF ⟨_, rfl, _, rfl, rfl, rfl, _, rfl, ?_⟩⟩
    rw [eqvI, List.length_map, List.length_map, decide_eq_true (by omega)]
    exact iteF ⟨_, rfl⟩
  · rintro s' ⟨x, rfl⟩
    exact h
theorem r_check_table (X : List Addr) (ds : List D) (k : Nat) (R : D → Nat → Prop) (h : sp_check_table ds k R) : t_check_table (En R) (St0 false 4 ds X k) := by
  obtain ⟨T, rfl, ht, h⟩ := h
  have hi := ht.hi
  refine ⟨_, rfl, T, rfl, ht, ?_⟩
  refine ⟨_, rfl, 1, _, rfl, rfl, ⟨by omega, by omega, ?_, ?_⟩, ?_⟩
  · rw [List.length_map]; omega
  · rw [List.length_map]; omega
  have en : (((T.map lI).length : Int) + 1 - 1).toNat = T.length := by rw [List.length_map]; omega
  rw [en]
  refine ⟨_, rfl, _, rfl, fun i s' => ∃ x y, s' = ⟨X, [.dat (lM T), .dat (.lst (rngD 1 T.length)), x, y], k⟩, ⟨_, _, rfl⟩, ?_, ?_⟩
  · rintro i d s' hd ⟨x, y, rfl⟩
    obtain ⟨hi, rfl⟩ := rngD_at hd
    refine ⟨_, rfl, _, rfl, fun j s' => ∃ y, s' = ⟨X, [.dat (lM T), .dat (.lst (rngD 1 T.length)), .dat (.int (1 + i)), y], k⟩, ⟨_, rfl⟩, ?_, ?_⟩
    · rintro j d s' hd ⟨y, rfl⟩
      obtain ⟨hj, rfl⟩ := rngD_at hd
      refine ⟨_, rfl, _, rfl, _, rfl, T, _, _, rfl, ht, by omega, by omega, by omega, by omega, _, rfl, iteF ⟨_, rfl⟩⟩
    · rintro s' ⟨y, rfl⟩
      exact ⟨_, _, rfl⟩
  · rintro s' ⟨x, y, rfl⟩
    exact h
theorem look_wts {k : Int} (h : k = 2 ∨ k = 3 ∨ k = 4 ∨ k = 6 ∨ k = 0) : lookI kd_WEIGHTS k = some (tI [(wts k).1, (wts k).2]) := by
  rcases h with e | e | e | e | e <;> subst e <;> rfl
theorem r_weight_of (X : List Addr) (ds : List D) (k : Nat) (R : D → Nat → Prop) (h : sp_weight_of ds k R) : t_weight_of (En R) (St0 false 5 ds X k) := by
  obtain ⟨T, a, b, rfl, ht, a1, a2, b1, b2, h⟩ := h
  obtain ⟨i, rfl⟩ : ∃ i : Nat, a = (i : Int) + 1 := ⟨(a - 1).toNat, by omega⟩
  obtain ⟨j, rfl⟩ : ∃ j : Nat, b = (j : Int) + 1 := ⟨(b - 1).toNat, by omega⟩
  have hi : i < T.length := by omega
  have hj : j < T.length := by omega
  have ei : ix ((i : Int) + 1) = i := by unfold ix; omega
  have ej : ix ((j : Int) + 1) = j := by unfold ix; omega
  rw [ei, ej] at h
  have row : ∀ i : Nat, i < T.length → ∀ z : Int, z = (i : Int) → atI (T.map tI) z = some (tI (T.getD i [])) := fun i hi z e => by rw [e]; exact atM [] hi
  have item : ∀ i j : Nat, i < T.length → j < T.length → ∀ z : Int, z = (j : Int) → atI ((T.getD i []).map D.int) z = some (.int (at2 T i j)) := fun i j hi hj z e => by rw [e]; exact atM 0 (by rw [ht.sq i hi]; exact hj)
  refine ⟨_, rfl, _, rfl, rfl, rfl, _, rfl, ?_⟩
  rw [eqvI]
  refine iteD (fun e => ?_) fun ne => ?_
  · intro X
    have e : i = j := by omega
    subst e
    unfold wt at h
    rw [if_pos rfl] at h
    exact h
  · have ne' : i ≠ j := by omega
    refine ⟨_, rfl, _, rfl, _, _, rfl, row i hi _ (by omega), _, rfl, _, _, rfl, item i j hi hj _ (by omega), ?_⟩
    refine ⟨_, _, rfl, look_wts (ht.of i j hi hj ne'), rfl, rfl, ?_⟩
    intro X
    unfold wt at h
    rw [if_neg ne'] at h
    refine ⟨_, rfl, _, rfl, _, rfl, iteD (fun lt => ⟨_, rfl, ?_⟩) fun ge => ⟨_, rfl, ?_⟩⟩
    · rw [if_pos (by omega)] at h; exact h
    · rw [if_neg (by omega)] at h; exact h
theorem r_weights_from (X : List Addr) (ds : List D) (k : Nat) (R : D → Nat → Prop) (h : sp_weights_from ds k R) : t_weights_from (En R) (St0 false 3 ds X k) := by
  obtain ⟨T, a, rfl, ht, a1, a2, h⟩ := h
  have hi := ht.hi
  intro X
  refine ⟨_, rfl, 1, _, rfl, rfl, ⟨by omega, by omega, ?_, ?_⟩, ?_⟩
  · rw [List.length_map]; omega
  · rw [List.length_map]; omega
  have en : (((T.map tI).length : Int) + 1 - 1).toNat = T.length := by rw [List.length_map]; omega
  rw [en]
  refine ⟨by rw [rngD_len]; exact Nat.le_trans hi (by decide), fun p hp => ⟨fun i acc k' => k' = k ∧ acc = ((List.range i).map fun j => D.int (wt T (ix a) j)), ⟨rfl, rfl⟩, ?_, ?_⟩⟩
  · rintro i d acc k' hd ⟨rfl, rfl⟩ hl
    obtain ⟨hi, rfl⟩ := rngD_at hd
    refine iteT ⟨_, rfl, _, rfl, _, rfl, T, a, _, rfl, ht, a1, a2, by omega, by omega, rfl, ?_⟩
    rw [List.range_succ, List.map_append]
    have e : ix (1 + (i : Int)) = i := by unfold ix; omega
    rw [e]
    rfl
  · rintro acc k' ⟨rfl, rfl⟩ hl
    refine ⟨_, rfl, ?_⟩
    have e : ((List.range (rngD 1 T.length).length).map fun j => D.int (wt T (ix a) j)) = (wtr T (ix a)).map .int := by
      unfold wtr
      rw [rngD_len, List.map_map]
      rfl
    rw [e]
    exact h
end BW
namespace BW
open PySem L2 DL
theorem press_length (T : Mat) (r : List Int) (i : Nat) : (press T r i).length = T.length := by unfold press; rw [List.length_map, List.length_range]
theorem r_as_word (X : List Addr) (ds : List D) (k : Nat) (R : D → Nat → Prop) (h : sp_as_word ds k R) : t_as_word (En R) (St0 false 4 ds X k) := by
  obtain ⟨d, w, n, rfl, hw, hl, hwd, h⟩ := h
  have loop : ∀ (s0 : S) (x y : Sl), ∀ i e, w[i]? = some e → ∀ (DD : DEnds), (∀ x y, DD.nx ⟨X, [.dat d, .dat (.int n), x, y], k⟩) → (dgTup 2 (dgCons (dgN 2) (dgCons (dgN 3) dgNil))) (.tup [.int ((0 + i : Nat) : Int), .int e]) ⟨X, [.dat d, .dat (.int n), x, y], k⟩ fun s2 => (dIfS (dNot (dTru (dCall sp_is_letter (dCons (dVar 3) (dCons (dVar 1) dNil))))) (fun _ _ => False) dNext) DD s2 := by
    intro s0 x y i e he DD hf
    have b := hwd e (List.mem_of_getElem? he)
    refine ⟨rfl, rfl, ?_⟩
    refine ⟨_, rfl, _, rfl, _, _, rfl, rfl, _, rfl, ?_⟩
    have e1 : D.isL n (.int e) = true := by
      show (decide (1 ≤ e) && decide (e ≤ n)) = true
      rw [decide_eq_true b.1, decide_eq_true b.2]; rfl
    rw [e1]
    exact iteF (hf _ _)
  rcases hw with rfl | rfl
  · refine ⟨_, rfl, _, _, _, rfl, rfl, rfl, _, rfl, iteF ⟨_, rfl, _, rfl, ?_⟩⟩
    rw [List.length_map, decide_eq_false (by omega)]
    refine iteF ⟨_, rfl, _, rfl, fun i s' => ∃ x y, s' = ⟨X, [.dat (lI w), .dat (.int n), x, y], k⟩, ⟨_, _, rfl⟩, ?_, ?_⟩
    · rintro i d s' hd ⟨x, y, rfl⟩
      obtain ⟨e, he, rfl⟩ := enum_at hd
      rw [List.getElem?_map] at he
      obtain ⟨a, ha, rfl⟩ := Option.map_eq_some_iff.mp he
      exact loop ⟨X, [], k⟩ x y i a ha _ fun x y => ⟨x, y, rfl⟩
    · rintro s' ⟨x, y, rfl⟩ X'
      exact ⟨_, rfl, h⟩
  · refine ⟨_, rfl, _, _, _, rfl, rfl, rfl, _, rfl, iteF ⟨_, rfl, _, rfl, ?_⟩⟩
    rw [List.length_map, decide_eq_false (by omega)]
    refine iteF ⟨_, rfl, _, rfl, fun i s' => ∃ x y, s' = ⟨X, [.dat (tI w), .dat (.int n), x, y], k⟩, ⟨_, _, rfl⟩, ?_, ?_⟩
    · rintro i d s' hd ⟨x, y, rfl⟩
      obtain ⟨e, he, rfl⟩ := enum_at hd
      rw [List.getElem?_map] at he
      obtain ⟨a, ha, rfl⟩ := Option.map_eq_some_iff.mp he
      exact loop ⟨X, [], k⟩ x y i a ha _ fun x y => ⟨x, y, rfl⟩
    · rintro s' ⟨x, y, rfl⟩ X'
      exact ⟨_, rfl, h⟩
theorem rep_one (n : Nat) : (List.replicate n [D.int 1]).flatten = (List.replicate n (1 : Int)).map .int := by
  induction n with
  | zero => rfl
  | succ n ih => rw [List.replicate_succ, List.flatten_cons, ih, List.replicate_succ]; rfl
theorem r_first_row (BC : Addr) (X : List Addr) (ds : List D) (k : Nat) (R : D → Nat → Prop) (h : sp_first_row BC ds k R) : t_first_row BC (En R) (St0 false 1 ds X k) := by
  obtain ⟨T, rfl, ht, h⟩ := h
  have lo := ht.lo
  have hi := ht.hi
  intro X
  refine ⟨by decide, _, rfl, ⟨_, _, rfl⟩, T, rfl, hi, T.length, rfl, by omega, ?_⟩
  refine ⟨by simp, by omega, by omega, by decide, ?_⟩
  have e : (List.replicate ((T.length : Nat) : Int).toNat [D.int 1]).flatten = (one T).map .int := by rw [Int.toNat_natCast]; exact rep_one _
  show R (.tup (List.replicate ((T.length : Nat) : Int).toNat [D.int 1]).flatten) k
  rw [e]
  exact h
theorem r_pressed (BC : Addr) (X : List Addr) (ds : List D) (k : Nat) (R : D → Nat → Prop) (h : sp_pressed BC ds k R) : t_pressed BC (En R) (St0 false 7 ds X k) := by
  obtain ⟨T, r, a, rfl, ht, hr, a1, a2, h⟩ := h
  have hT := ht.hi
  obtain ⟨i, rfl⟩ : ∃ i : Nat, a = (i : Int) + 1 := ⟨(a - 1).toNat, by omega⟩
  have hi : i < T.length := by omega
  have ei : ix ((i : Int) + 1) = i := by unfold ix; omega
  rw [ei] at h
  refine ⟨_, rfl, _, rfl, _, .int (r.getD i 0), rfl, by rw [show (i : Int) + 1 - 1 = (i : Int) by omega]; exact atM 0 (by omega), ?_⟩
  have w1 : atI ((wtM T).map tI) ((i : Int) + 1 - 1) = some (tI (wtr T i)) := by
    rw [show (i : Int) + 1 - 1 = (i : Int) by omega]
    have q := atM (f := tI) (xs := wtM T) [] (i := i) (by unfold wtM; rw [List.length_map, List.length_range]; exact hi)
    rw [q]
    congr 2
    unfold wtM
    rw [List.getD_eq_getElem?_getD, List.getElem?_map, List.getElem?_range hi]
    rfl
  refine ⟨_, rfl, _, _, _, rfl, rfl, _, rfl, _, _, rfl, w1, ?_⟩
  intro X
  have lw : (wtr T i).length = T.length := by unfold wtr; rw [List.length_map, List.length_range]
  refine ⟨_, rfl, _, rfl, _, _, rfl, rfl, ?_⟩
  have lp : (pairD (r.map D.int) ((wtr T i).map D.int)).length = T.length := by rw [pair_len, List.length_map, List.length_map, hr, lw]; omega
  refine ⟨by rw [lp]; exact Nat.le_trans hT (by decide), fun p hp => ⟨fun j acc k' => k' = k ∧ acc = ((List.range j).map fun j => D.int (r.getD j 0 + wt T i j * r.getD i 0)), ⟨rfl, rfl⟩, ?_, ?_⟩⟩
  · rintro j d acc k' hd ⟨rfl, rfl⟩ hl
    have hj : j < T.length := by rw [← lp]; exact (List.getElem?_eq_some_iff.mp hd).1
    obtain ⟨x, y, hx, hy, rfl⟩ := pair_at hd
    rw [List.getElem?_map, getD_get (d := 0) (by omega : j < r.length)] at hx
    rw [List.getElem?_map, getD_get (d := 0) (by omega : j < (wtr T i).length)] at hy
    cases hx
    cases hy
    have ew : (wtr T i).getD j 0 = wt T i j := by
      unfold wtr
      rw [List.getD_eq_getElem?_getD, List.getElem?_map, List.getElem?_range hj]
      rfl
    rw [ew]
    have bw : -(2 ^ 64) < wt T i j ∧ wt T i j < 2 ^ 64 := by
      unfold wt wts
      split
      · exact ⟨by decide, by decide⟩
      · split <;> split <;> first | exact ⟨by decide, by decide⟩ | (split <;> first | exact ⟨by decide, by decide⟩ | (split <;> first | exact ⟨by decide, by decide⟩ | (split <;> exact ⟨by decide, by decide⟩)))
    refine ⟨rfl, rfl, iteT ⟨_, rfl, _, rfl, _, rfl, .inl bw, rfl, ?_⟩⟩
    rw [List.range_succ, List.map_append]
    rfl
  · rintro acc k' ⟨rfl, rfl⟩ hl
    refine ⟨_, rfl, ?_⟩
    rw [lp]
    have e : ((List.range T.length).map fun j => D.int (r.getD j 0 + wt T i j * r.getD i 0)) = (press T r i).map .int := by
      unfold press
      rw [List.map_map]
      rfl
    rw [e]
    exact h
theorem r_row_behind (BC : Addr) (X : List Addr) (ds : List D) (k : Nat) (R : D → Nat → Prop) (h : sp_row_behind BC ds k R) : t_row_behind BC (En R) (St0 false 4 ds X k) := by
  obtain ⟨T, d0, w, rfl, ht, hd0, hw, h⟩ := h
  have hit : d0.items = some (w.map D.int) := by rcases hd0 with rfl | rfl <;> rfl
  refine ⟨_, rfl, T, rfl, ht, ?_⟩
  refine ⟨_, rfl, _, hit, fun i s' => ∃ x r, s' = ⟨X, [.dat (bnd BC T), .dat d0, .dat (tI r), x], k⟩ ∧ r.length = T.length ∧ (w.drop i).foldl (fun r a => press T r (ix a)) r = row T w, ⟨_, _, rfl, by unfold one; rw [List.length_replicate], rfl⟩, ?_, ?_⟩
  · rintro i d s' hd ⟨x, r, rfl, hr, e⟩
    rw [List.getElem?_map] at hd
    obtain ⟨a, ha, rfl⟩ := Option.map_eq_some_iff.mp hd
    have b := hw a (List.mem_of_getElem? ha)
    have hi := (List.getElem?_eq_some_iff.mp ha)
    obtain ⟨hi, e2⟩ := hi
    rw [List.drop_eq_getElem_cons hi, e2, List.foldl_cons] at e
    refine ⟨_, rfl, _, rfl, _, rfl, T, r, a, rfl, ht, hr, b.1, b.2, ?_⟩
    exact ⟨_, _, rfl, press_length _ _ _, e⟩
  · rintro s' ⟨x, r, rfl, hr, e⟩ X'
    rw [List.length_map, List.drop_length] at e
    have e : r = row T w := e
    subst e
    exact ⟨_, rfl, h⟩
theorem r_fallen (X : List Addr) (ds : List D) (k : Nat) (R : D → Nat → Prop) (h : sp_fallen ds k R) : t_fallen (En R) (St0 false 3 ds X k) := by
  obtain ⟨r, rfl, hr, h⟩ := h
  intro X
  have le : (enumD 0 (r.map D.int)).length = r.length := by rw [enum_len, List.length_map]
  refine ⟨_, rfl, _, rfl, by rw [le]; exact Nat.le_trans hr (by decide), fun p hp => ⟨fun j acc k' => k' = k ∧ acc = ((((List.range j).filter fun i => decide (r.getD i 0 < 0)).map fun (i : Nat) => (i : Int) + 1).map D.int), ⟨rfl, rfl⟩, ?_, ?_⟩⟩
  · rintro j d acc k' hd ⟨rfl, rfl⟩ hl
    have hj : j < r.length := by rw [← le]; exact (List.getElem?_eq_some_iff.mp hd).1
    obtain ⟨e, he, rfl⟩ := enum_at hd
    rw [List.getElem?_map, getD_get (d := 0) hj] at he
    cases he
    have st : (((List.range (j + 1)).filter fun i => decide (r.getD i 0 < 0)).map fun (i : Nat) => (i : Int) + 1) = ((List.range j).filter fun i => decide (r.getD i 0 < 0)).map (fun (i : Nat) => (i : Int) + 1) ++ if decide (r.getD j 0 < 0) = true then [(j : Int) + 1] else [] := by
      rw [List.range_succ, List.filter_append, List.map_append]
      congr 1
      by_cases h : r.getD j 0 < 0
      · rw [List.filter_cons, if_pos (decide_eq_true h), if_pos (decide_eq_true h)]; rfl
      · rw [List.filter_cons, if_neg (by rw [decide_eq_false h]; decide), if_neg (by rw [decide_eq_false h]; decide)]; rfl
    refine ⟨rfl, rfl, ⟨_, rfl, _, rfl, iteD (fun lt => ⟨_, rfl, rfl, ?_⟩) fun ge => ⟨rfl, ?_⟩⟩⟩
    · rw [st, if_pos (decide_eq_true lt), List.map_append]
      rw [show (((0 + j : Nat) : Int)) = (j : Int) by omega]
      rfl
    · rw [st, if_neg (by rw [decide_eq_false ge]; decide), List.append_nil]
  · rintro acc k' ⟨rfl, rfl⟩ hl
    rw [le]
    exact ⟨_, rfl, h⟩
end BW
namespace BW
open PySem L2 DL
theorem fall_mem {r : List Int} {a : Int} (h : a ∈ fall r) : ∃ i : Nat, a = (i : Int) + 1 ∧ i < r.length ∧ r.getD i 0 < 0 := by
  unfold fall at h
  obtain ⟨i, hi, rfl⟩ := List.mem_map.mp h
  obtain ⟨h1, h2⟩ := List.mem_filter.mp hi
  exact ⟨i, rfl, List.mem_range.mp h1, of_decide_eq_true h2⟩
theorem fall_length (r : List Int) : (fall r).length ≤ r.length := by
  unfold fall
  rw [List.length_map]
  exact Nat.le_trans (List.length_filter_le _ _) (by rw [List.length_range]; exact Nat.le_refl _)
theorem wd_nil {T : Mat} {n : Nat} {r : List Int} (h : fall r = []) : wd T n r = ([], r) := by
  cases n with
  | zero => rfl
  | succ n => unfold wd; rw [h]
theorem wd_cons {T : Mat} {n : Nat} {r : List Int} {a : Int} {q : List Int} (h : fall r = a :: q) : wd T (n + 1) r = (a :: (wd T n (press T r (ix a))).1, (wd T n (press T r (ix a))).2) := by
  conv => lhs; unfold wd
  rw [h]
theorem r_way_down (BC : Addr) (X : List Addr) (ds : List D) (k : Nat) (R : D → Nat → Prop) (h : sp_way_down BC ds k R) : t_way_down BC (En R) (St0 false 5 ds X k) := by
  obtain ⟨T, r, rfl, ht, hr, h⟩ := h
  have hT := ht.hi
  refine ⟨by decide, fun p hp => ?_⟩
  refine ⟨_, rfl, ?_⟩
  refine ⟨_, rfl, r, rfl, by omega, ?_⟩
  refine ⟨fun m s' => ∃ acc now : List Int, s' = ⟨p :: X, [.dat (bnd BC T), .dat (tI r), .own p (acc.map .int), .dat (tI now), .dat (tI (fall now))], k⟩ ∧ now.length = T.length ∧ m = 60 - acc.length ∧ acc.length ≤ 60 ∧ (acc ++ (wd T (60 - acc.length) now).1, (wd T (60 - acc.length) now).2) = wd T 60 r, ⟨60, [], r, rfl, hr, rfl, by decide, rfl⟩, ?_⟩
  rintro m s' ⟨acc, now, rfl, hn, rfl, hl, e⟩
  have done : wd T (60 - acc.length) now = ([], now) → (dRet (dTup (dCons (dVar 2) (dCons (dVar 3) dNil)))) (En R) ⟨p :: X, [.dat (bnd BC T), .dat (tI r), .own p (acc.map .int), .dat (tI now), .dat (tI (fall now))], k⟩ := fun q X' => by
    rw [q, List.append_nil] at e
    have e1 : acc = (wd T 60 r).1 := congrArg Prod.fst e
    have e2 : now = (wd T 60 r).2 := congrArg Prod.snd e
    refine ⟨_, rfl, _, rfl, by show 2 ≤ lim; decide, ?_⟩
    rw [← e1, ← e2] at h
    exact h
  cases hf : fall now with
  | nil =>
    rw [hf] at done
    exact ⟨_, rfl, _, rfl, iteF (iteF (done (wd_nil hf)))⟩
  | cons a q =>
    rw [hf] at done
    refine ⟨_, rfl, _, rfl, iteT ⟨_, rfl, _, rfl, ?_⟩⟩
    rw [List.length_map]
    refine iteD (fun lt => ?_) fun ge => ?_
    · obtain ⟨i, rfl, hi, _⟩ := fall_mem (by rw [hf]; exact List.mem_cons_self : a ∈ fall now)
      have hlt : acc.length < 60 := by omega
      refine ⟨p, _, rfl, _, rfl, 0, _, rfl, atI_nat (j := 0) rfl, by rw [List.length_map]; exact Nat.lt_of_lt_of_le hlt (by decide), ?_⟩
      refine ⟨_, rfl, _, rfl, _, rfl, 0, _, rfl, atI_nat (j := 0) rfl, T, now, (i : Int) + 1, rfl, ht, hn, by omega, by omega, ?_⟩
      refine ⟨_, rfl, _, rfl, by rw [press_length]; exact hT, ?_⟩
      obtain ⟨n, en⟩ : ∃ n, 60 - acc.length = n + 1 := ⟨60 - acc.length - 1, by omega⟩
      have en2 : 60 - (acc ++ [(i : Int) + 1]).length = n := by rw [List.length_append, List.length_singleton]; omega
      refine ⟨n, by omega, acc ++ [(i : Int) + 1], _, by rw [List.map_append]; rfl, press_length _ _ _, en2.symm, by rw [List.length_append, List.length_singleton]; omega, ?_⟩
      rw [en2]
      rw [en, wd_cons hf] at e
      rw [← e, List.append_assoc]
      rfl
    · have : 60 - acc.length = 0 := by omega
      exact done (by rw [this]; rfl)
theorem row_length (T : Mat) (w : List Int) : (row T w).length = T.length := by
  unfold row
  have : ∀ (w : List Int) (r : List Int), r.length = T.length → (w.foldl (fun r a => press T r (ix a)) r).length = T.length := by
    intro w
    induction w with
    | nil => exact fun _ h => h
    | cons a w ih => exact fun r _ => ih _ (press_length _ _ _)
  exact this w _ (by unfold one; rw [List.length_replicate])
theorem r_row_of (BC : Addr) (X : List Addr) (ds : List D) (k : Nat) (R : D → Nat → Prop) (h : sp_row_of BC ds k R) : t_row_of BC (En R) (St0 false 2 ds X k) := by
  obtain ⟨T, d, w, rfl, ht, hw, hl, hd, h⟩ := h
  intro X
  refine ⟨_, rfl, _, rfl, _, rfl, ⟨_, _, rfl⟩, T, rfl, ht.hi, T.length, rfl, by have := ht.hi; omega, ?_⟩
  exact ⟨d, w, T.length, rfl, hw, hl, hd, T, _, w, rfl, ht, .inr rfl, hd, h⟩
theorem r_length (BC : Addr) (X : List Addr) (ds : List D) (k : Nat) (R : D → Nat → Prop) (h : sp_length BC ds k R) : t_length BC (En R) (St0 false 2 ds X k) := by
  obtain ⟨T, d, w, rfl, ht, hw, hl, hd, h⟩ := h
  intro X
  refine ⟨_, rfl, _, rfl, _, rfl, T, d, w, rfl, ht, hw, hl, hd, ?_⟩
  refine ⟨T, row T w, rfl, ht, row_length T w, ?_⟩
  refine ⟨_, _, rfl, rfl, _, rfl, ?_⟩
  rw [List.length_map]
  exact h
end BW
namespace BW
open PySem L2 DL
theorem r__law_mixed (X : List Addr) (ds : List D) (k : Nat) (R : D → Nat → Prop) (h : sp__law_mixed ds k R) : t__law_mixed (En R) (St0 false 3 ds X k) := by
  obtain ⟨a, n, rfl, a0, a1, n0, n1, h⟩ := h
  (repeat (first | with_reducible refine ⟨_, rfl, ?_⟩ | refine ⟨_, rfl, ?_⟩ | refine And.intro (by (first | omega | exact Or.inl ⟨by omega, by omega⟩ | exact Or.inr ⟨by omega, by omega⟩ | exact wide_div (b := 40) (by omega) (by omega) (by decide) (by decide) | exact ⟨by omega, by omega⟩ | exact ⟨by omega, by omega, by omega⟩ | exact ⟨by omega, by omega, by omega, by omega⟩ | decide)) ?_))
  intro X
  (repeat (first | with_reducible refine ⟨_, rfl, ?_⟩ | refine ⟨_, rfl, ?_⟩ | refine And.intro (by (first | omega | exact Or.inl ⟨by omega, by omega⟩ | exact Or.inr ⟨by omega, by omega⟩ | exact wide_div (b := 40) (by omega) (by omega) (by decide) (by decide) | exact ⟨by omega, by omega⟩ | exact ⟨by omega, by omega, by omega⟩ | exact ⟨by omega, by omega, by omega, by omega⟩ | decide)) ?_))
  refine h _ ?_ ?_
  · omega
  · omega
theorem look_dix {k : Int} (h : k = 2 ∨ k = 3 ∨ k = 4 ∨ k = 6 ∨ k = 0) : lookI [((2 : Int), D.tup [.int 0, .int 0]), (3, .tup [.int 1, .int 1]), (4, .tup [.int 1, .int 2]), (6, .tup [.int 1, .int 3]), (0, .tup [.int 2, .int 2])] k = some (tI [(wts k).1, (wts k).2]) := look_wts h
theorem r__law_weight (X : List Addr) (ds : List D) (k : Nat) (R : D → Nat → Prop) (h : sp__law_weight ds k R) : t__law_weight (En R) (St0 false 5 ds X k) := by
  obtain ⟨T, a, b, rfl, ht, a1, a2, b1, b2, h⟩ := h
  obtain ⟨i, rfl⟩ : ∃ i : Nat, a = (i : Int) + 1 := ⟨(a - 1).toNat, by omega⟩
  obtain ⟨j, rfl⟩ : ∃ j : Nat, b = (j : Int) + 1 := ⟨(b - 1).toNat, by omega⟩
  have hi : i < T.length := by omega
  have hj : j < T.length := by omega
  have ei : ix ((i : Int) + 1) = i := by unfold ix; omega
  have ej : ix ((j : Int) + 1) = j := by unfold ix; omega
  rw [ei, ej] at h
  have row : ∀ i : Nat, i < T.length → ∀ z : Int, z = (i : Int) → atI (T.map lI) z = some (lI (T.getD i [])) := fun i hi z e => by rw [e]; exact atM [] hi
  have item : ∀ i j : Nat, i < T.length → j < T.length → ∀ z : Int, z = (j : Int) → atI ((T.getD i []).map D.int) z = some (.int (at2 T i j)) := fun i j hi hj z e => by rw [e]; exact atM 0 (by rw [ht.sq i hi]; exact hj)
  refine ⟨_, rfl, _, rfl, rfl, rfl, _, rfl, ?_⟩
  rw [eqvI]
  refine iteD (fun e => ?_) fun ne => ?_
  · intro X
    have e : i = j := by omega
    subst e
    unfold wt at h
    rw [if_pos rfl] at h
    exact h
  · have ne' : i ≠ j := by omega
    refine fun p hp => ⟨by decide, by decide, by decide, by decide, by decide, ⟨by decide, by decide⟩, ?_⟩
    refine ⟨_, rfl, _, rfl, _, _, rfl, row i hi _ (by omega), _, rfl, _, _, rfl, item i j hi hj _ (by omega), ?_⟩
    refine ⟨_, _, rfl, look_dix (ht.of i j hi hj ne'), rfl, rfl, ?_⟩
    intro X
    unfold wt at h
    rw [if_neg ne'] at h
    refine ⟨_, rfl, _, rfl, _, rfl, iteD (fun lt => ⟨_, rfl, ?_⟩) fun ge => ⟨_, rfl, ?_⟩⟩
    · rw [if_pos (by omega)] at h; exact h
    · rw [if_neg (by omega)] at h; exact h
theorem wt_bd (T : Mat) (i j : Nat) : -(2 ^ 64) < wt T i j ∧ wt T i j < 2 ^ 64 := by
  unfold wt wts
  split
  · exact ⟨by decide, by decide⟩
  · split <;> split <;> first | exact ⟨by decide, by decide⟩ | (split <;> first | exact ⟨by decide, by decide⟩ | (split <;> first | exact ⟨by decide, by decide⟩ | (split <;> exact ⟨by decide, by decide⟩)))
theorem r__law_press (X : List Addr) (ds : List D) (k : Nat) (R : D → Nat → Prop) (h : sp__law_press ds k R) : t__law_press (En R) (St0 false 4 ds X k) := by
  obtain ⟨T, r, a, rfl, ht, hr, a1, a2, h⟩ := h
  have hT := ht.hi
  obtain ⟨i, rfl⟩ : ∃ i : Nat, a = (i : Int) + 1 := ⟨(a - 1).toNat, by omega⟩
  have hi : i < T.length := by omega
  have ei : ix ((i : Int) + 1) = i := by unfold ix; omega
  rw [ei] at h
  intro X
  have lt : (T.map lI).length = T.length := List.length_map ..
  refine ⟨_, rfl, _, rfl, by rw [lt]; omega, by rw [lt]; omega, ?_⟩
  have en : (((T.map lI).length : Nat) : Int).toNat = T.length := by rw [lt]; omega
  rw [en]
  refine ⟨by rw [rngD_len]; exact Nat.le_trans hT (by decide), fun p hp => ⟨fun j acc k' => k' = k ∧ acc = ((List.range j).map fun j => D.int (r.getD j 0 + wt T i j * r.getD i 0)), ⟨rfl, rfl⟩, ?_, ?_⟩⟩
  · rintro j d acc k' hd ⟨rfl, rfl⟩ hl
    obtain ⟨hj, rfl⟩ := rngD_at hd
    have ej : ix (0 + (j : Int) + 1) = j := by unfold ix; omega
    have ej' : ix ((i : Int) + 1) = i := ei
    refine iteT ⟨_, rfl, _, rfl, _, .int (r.getD j 0), rfl, by rw [show (0 : Int) + (j : Int) = (j : Int) by omega]; exact atM 0 (by omega), ?_⟩
    refine ⟨_, rfl, _, rfl, _, rfl, T, _, _, rfl, ht, by omega, by omega, by omega, by omega, ?_⟩
    refine ⟨_, rfl, _, rfl, _, .int (r.getD i 0), rfl, by rw [show (i : Int) + 1 - 1 = (i : Int) by omega]; exact atM 0 (by omega), ?_⟩
    refine ⟨.inl (wt_bd _ _ _), rfl, ?_⟩
    rw [List.range_succ, List.map_append, ej, ei]
    rfl
  · rintro acc k' ⟨rfl, rfl⟩ hl
    refine ⟨_, rfl, ?_⟩
    rw [rngD_len]
    have e : ((List.range T.length).map fun j => D.int (r.getD j 0 + wt T i j * r.getD i 0)) = (press T r i).map .int := by
      unfold press
      rw [List.map_map]
      rfl
    rw [e]
    exact h
theorem r__law_stretch (X : List Addr) (ds : List D) (k : Nat) (R : D → Nat → Prop) (h : sp__law_stretch ds k R) : t__law_stretch (En R) (St0 false 4 ds X k) := by
  obtain ⟨a, b, n, rfl, n0, n1, h⟩ := h
  intro X
  refine ⟨_, rfl, _, rfl, by omega, by omega, ?_⟩
  refine ⟨by rw [rngD_len]; exact Nat.le_trans (by omega : n.toNat ≤ 1000) (by decide), fun p hp => ⟨fun j acc k' => k' = k ∧ acc = ((List.range j).map fun i => D.int (if i % 2 = 0 then a else b)), ⟨rfl, rfl⟩, ?_, ?_⟩⟩
  · rintro j d acc k' hd ⟨rfl, rfl⟩ hl
    obtain ⟨hj, rfl⟩ := rngD_at hd
    refine iteT ⟨_, rfl, _, rfl, by show 2 ≤ lim; decide, _, rfl, _, rfl, by decide, ?_⟩
    have e2 : ((0 + (j : Int)) % 2) = ((j % 2 : Nat) : Int) := by omega
    have cs : j % 2 = 0 ∨ j % 2 = 1 := by omega
    refine ⟨_, .int (if j % 2 = 0 then a else b), rfl, ?_, rfl, ?_⟩
    · rw [e2]
      rcases cs with c | c <;> rw [c] <;> rfl
    · rw [List.range_succ, List.map_append]
      rfl
  · rintro acc k' ⟨rfl, rfl⟩ hl
    refine ⟨_, rfl, ?_⟩
    rw [rngD_len]
    have e : ((List.range n.toNat).map fun i => D.int (if i % 2 = 0 then a else b)) = (alt a b n.toNat).map .int := by
      unfold alt
      rw [List.map_map]
      rfl
    rw [e]
    exact h
end BW
namespace BW
open PySem L2 DL
theorem r__law_word (X : List Addr) (ds : List D) (k : Nat) (R : D → Nat → Prop) (h : sp__law_word ds k R) : t__law_word (En R) (St0 true 10 ds X k) := by
  obtain ⟨T, most, rfl, ht, m0, m1, hk, h⟩ := h
  have lo := ht.lo
  have hi := ht.hi
  have lt : (T.map lI).length = T.length := List.length_map ..
  refine ⟨by decide, fun p hp => ?_⟩
  refine ⟨rfl, 3, rfl, by decide, by decide, by show k < _; omega, fun way _ _ => ?_⟩
  refine ⟨by decide, _, rfl, by simp, by rw [lt]; omega, by rw [lt]; omega, by decide, ?_⟩
  have e1 : (List.replicate (((T.map lI).length : Nat) : Int).toNat [D.int 1]).flatten = (one T).map .int := by rw [lt, Int.toNat_natCast]; exact rep_one _
  refine ⟨rfl, _, rfl, most + 1, rfl, by omega, by omega, by show k + 1 < _; omega, fun d d0 d1 => ⟨_, rfl, by omega, by omega, ?_⟩⟩
  refine ⟨fun i s' => ∃ (acc here : List Int) (x6 x7 x8 x9 : Sl) (k' : Nat), s' = ⟨p :: X, [.mst, .dat (lM T), .dat (.int most), .own p (acc.map .int), .dat (.int way), .dat (tI here), x6, x7, x8, x9], k'⟩ ∧ Wd T.length acc ∧ acc.length = i ∧ here.length = T.length ∧ k ≤ k' ∧ k' ≤ k + 2 + 3 * i, ?_, ?_, ?_⟩
  · refine ⟨[], one T, .no, .no, .no, .no, k + 1 + 1, ?_, fun _ h => (nomatch h), rfl, by unfold one; rw [List.length_replicate], by omega, by omega⟩
    show (⟨p :: X, [.mst, .dat (lM T), .dat (.int most), .own p [], .dat (.int way), .dat (.tup (List.replicate (((T.map lI).length : Nat) : Int).toNat [D.int 1]).flatten), .no, .no, .no, .no], k + 1 + 1⟩ : S) = _
    rw [e1]
    rfl
  · rintro i d' s' hd ⟨acc, here, x6, x7, x8, x9, k', rfl, hw, ha, hh, k1, k2⟩
    obtain ⟨hi', rfl⟩ := rngD_at hd
    have i60 : i < 60 := by omega
    refine ⟨rfl, _, rfl, _, rfl, by rw [lt]; omega, by rw [lt]; omega, by show k' < _; omega, fun l l0 l1 => ?_⟩
    rw [lt] at l1
    -- behind the choice of a letter
    have tail : ∀ (DD : DEnds) (c : Int) (x8 x9 : Sl) (k'' : Nat), 1 ≤ c → c ≤ T.length → (∀ s', (∃ (acc here : List Int) (x6 x7 x8 x9 : Sl) (k' : Nat), s' = (⟨p :: X, [.mst, .dat (lM T), .dat (.int most), .own p (acc.map .int), .dat (.int way), .dat (tI here), x6, x7, x8, x9], k'⟩ : S) ∧ Wd T.length acc ∧ acc.length = i + 1 ∧ here.length = T.length ∧ k ≤ k' ∧ k' ≤ k + 2 + 3 * (i + 1)) → DD.nx s') → k ≤ k'' → k'' ≤ k + 2 + 3 * (i + 1) →
        (dSeq (dApp 3 (dVar 7)) (dSet 5 (dCall sp__law_press (dCons (dVar 1) (dCons (dVar 5) (dCons (dVar 7) dNil)))))) DD ⟨p :: X, [.mst, .dat (lM T), .dat (.int most), .own p (acc.map .int), .dat (.int way), .dat (tI here), .dat (.int (0 + (i : Int))), .dat (.int c), x8, x9], k''⟩ := by
      intro DD c x8 x9 k'' c1 c2 hDD q1 q2
      refine ⟨p, _, rfl, _, rfl, by rw [List.length_map, ha]; exact Nat.lt_trans i60 (by decide), ?_⟩
      refine ⟨_, rfl, _, rfl, _, rfl, T, here, c, rfl, ht, hh, c1, c2, ?_⟩
      refine hDD _ ⟨acc ++ [c], _, _, _, _, _, k'', by rw [List.map_append]; rfl, ?_, by rw [List.length_append, List.length_singleton, ha], press_length _ _ _, q1, q2⟩
      intro a h
      rcases List.mem_append.mp h with h | h
      · exact hw a h
      · simp at h
        subst h
        exact ⟨c1, c2⟩
    refine ⟨_, rfl, _, rfl, ?_⟩
    refine iteD (fun w0 => ?_) fun _ => iteF (tail _ (1 + l) x8 x9 (k' + 1) (by omega) (by omega) (fun _ h => h) (by omega) (by omega))
    obtain ⟨j, rfl⟩ : ∃ j : Nat, l = (j : Int) := ⟨l.toNat, by omega⟩
    refine ⟨_, rfl, _, rfl, _, .int (here.getD j 0), rfl, by rw [show (1 : Int) + (j : Int) - 1 = (j : Int) by omega]; exact atM 0 (by omega), _, rfl, ?_⟩
    refine iteD (fun w1 => ?_) fun _ => iteF (tail _ (1 + (j : Int)) x8 x9 (k' + 1) (by omega) (by omega) (fun _ h => h) (by omega) (by omega))
    refine ⟨rfl, 8, rfl, by decide, by decide, by show k' + 1 < _; omega, fun g g0 g1 => ⟨_, rfl, ?_⟩⟩
    refine iteD (fun w2 => ?_) fun _ => tail _ (1 + (j : Int)) x8 x9 (k' + 1 + 1) (by omega) (by omega) (fun _ h => h) (by omega) (by omega)
    refine ⟨_, rfl, _, rfl, by rw [lt]; omega, by rw [lt]; omega, ?_⟩
    have en : (((T.map lI).length : Nat) : Int).toNat = T.length := by rw [lt]; omega
    rw [en]
    refine ⟨by rw [rngD_len]; exact Nat.le_trans hi (by decide), fun q hq => ⟨fun _ a k3 => k3 = k' + 1 + 1 ∧ ∃ zs : List Int, a = zs.map .int ∧ (∀ z ∈ zs, 1 ≤ z ∧ z ≤ T.length) ∧ zs.length ≤ a.length, ⟨rfl, [], rfl, fun _ h => (nomatch h), Nat.le_refl _⟩, ?_, ?_⟩⟩
    · rintro b d a k3 hd ⟨rfl, zs, rfl, hz, _⟩ _
      obtain ⟨hb, rfl⟩ := rngD_at hd
      refine ⟨_, rfl, _, rfl, _, .int (here.getD b 0), rfl, by rw [show (0 : Int) + (b : Int) = (b : Int) by omega]; exact atM 0 (by omega), _, rfl, ?_⟩
      refine iteD (fun _ => ⟨_, rfl, rfl, zs ++ [0 + (b : Int) + 1], by rw [List.map_append]; rfl, ?_, by simp⟩) fun _ => ⟨rfl, zs, rfl, hz, by simp⟩
      intro z hz'
      rcases List.mem_append.mp hz' with h | h
      · exact hz z h
      · simp at h
        subst h
        omega
    · rintro a k3 ⟨rfl, zs, rfl, hz, _⟩ hl
      rw [List.length_map, rngD_len] at hl
      refine ⟨_, rfl, by decide, okE_lstI zs, okE_lstI [], _, rfl, ?_⟩
      have ev : PyData.eqv (D.lst (zs.map D.int)).py (D.lst []).py = decide (zs = []) := eqv_lstI zs []
      rw [ev]
      cases zs with
      | nil =>
        exact iteF ⟨_, rfl, tail _ (1 + (j : Int)) _ x9 (k' + 1 + 1) (by omega) (by omega) (fun _ h => h) (by omega) (by omega)⟩
      | cons z zs =>
        rw [decide_eq_false (by intro e; cases e)]
        refine iteT ⟨_, rfl, rfl, _, rfl, _, rfl, ?_, ?_, by show k' + 1 + 1 < _; omega, fun e e0 e1 => ?_⟩
        · rw [List.length_map, List.length_cons]; omega
        · rw [List.length_map]; exact Int.lt_of_le_of_lt (b := 6) (by omega) (by decide)
        · rw [List.length_map] at e1
          obtain ⟨v, rfl⟩ : ∃ v : Nat, e = (v : Int) := ⟨e.toNat, by omega⟩
          have hv : v < (z :: zs).length := by omega
          refine ⟨_, .int ((z :: zs).getD v 0), rfl, atM 0 hv, ?_⟩
          have mem := hz ((z :: zs).getD v 0) (List.mem_of_getElem? (getD_get (d := 0) hv))
          exact tail _ ((z :: zs).getD v 0) _ x9 (k' + 1 + 1 + 1) mem.1 mem.2 (fun _ h => h) (by omega) (by omega)
  · rintro s' ⟨acc, here, x6, x7, x8, x9, k', rfl, hw, ha, hh, k1, k2⟩ X'
    rw [rngD_len] at ha k2
    exact ⟨_, rfl, h acc k' hw (by omega) k1 (by omega)⟩
end BW
namespace BW
open PySem L2 DL
theorem cut_to {ds : List D} {z : Int} {k : Nat} (h : z = k) : cutD ds none (some z) = ds.take k := by
  subst h
  unfold cutD
  rw [HT.sIx_nat, HT.sIx_none, List.drop_zero, Nat.sub_zero]
  by_cases h : k ≤ ds.length
  · rw [Nat.min_eq_left h]
  · rw [Nat.min_eq_right (by omega), List.take_of_length_le (Nat.le_refl _), List.take_of_length_le (by omega)]
theorem cut_from {ds : List D} {z : Int} {k : Nat} (h : z = k) : cutD ds (some z) none = ds.drop k := by
  subst h
  unfold cutD
  rw [HT.sIx_nat, HT.sIx_none]
  by_cases h : k ≤ ds.length
  · rw [Nat.min_eq_left h, List.take_of_length_le (by rw [List.length_drop]; exact Nat.le_refl _)]
  · rw [Nat.min_eq_right (by omega), Nat.sub_self, List.take_zero, List.drop_eq_nil_of_le (by omega)]
theorem cut_mid {ds : List D} {y z : Int} {k m : Nat} (h : y = k) (h2 : z = ((k + m : Nat) : Int)) : cutD ds (some y) (some z) = (ds.drop k).take m := by
  subst h h2
  unfold cutD
  rw [HT.sIx_nat, HT.sIx_nat]
  by_cases h : k ≤ ds.length
  · rw [Nat.min_eq_left h]
    by_cases h2 : k + m ≤ ds.length
    · rw [Nat.min_eq_left h2, Nat.add_sub_cancel_left]
    · rw [Nat.min_eq_right (by omega), List.take_of_length_le (by rw [List.length_drop]; exact Nat.le_refl _), List.take_of_length_le (by rw [List.length_drop]; omega)]
  · rw [Nat.min_eq_right (by omega : ds.length ≤ k), Nat.min_eq_right (by omega), Nat.sub_self, List.take_zero, List.drop_eq_nil_of_le (by omega), List.take_nil]
inductive Deed where
  | inn (k : Nat) (a : Int) | out (k : Nat) | turn (k : Nat)
def Deed.d : Deed → D
  | .inn k a => .tup [.str "in", .int k, .int a]
  | .out k => .tup [.str "out", .int k]
  | .turn k => .tup [.str "turn", .int k]
def Deed.k : Deed → Nat
  | .inn k _ => k
  | .out k => k
  | .turn k => k
def mv (T : Mat) (w : List Int) : Deed → Option (List Int)
  | .inn k a => some ((w.take k ++ [a, a]) ++ w.drop k)
  | .out k => if k + 1 < w.length ∧ w.getD k 0 = w.getD (k + 1) 0 then some (w.take k ++ w.drop (k + 2)) else none
  | .turn k => if k + 1 < w.length ∧ w.getD k 0 ≠ w.getD (k + 1) 0 then
      (let a := w.getD k 0
       let b := w.getD (k + 1) 0
       let m := (at2 T (ix a) (ix b)).toNat
       if m ≠ 0 ∧ (w.drop k).take m = alt a b m then some ((w.take k ++ alt b a m) ++ w.drop (k + m)) else none) else none
theorem mv_out (T : Mat) (w : List Int) (k : Nat) : mv T w (.out k) = if k + 1 < w.length ∧ w.getD k 0 = w.getD (k + 1) 0 then some (w.take k ++ w.drop (k + 2)) else none := rfl
theorem mv_turn (T : Mat) (w : List Int) (k : Nat) : mv T w (.turn k) = if k + 1 < w.length ∧ w.getD k 0 ≠ w.getD (k + 1) 0 then
      (if (at2 T (ix (w.getD k 0)) (ix (w.getD (k + 1) 0))).toNat ≠ 0 ∧ (w.drop k).take (at2 T (ix (w.getD k 0)) (ix (w.getD (k + 1) 0))).toNat = alt (w.getD k 0) (w.getD (k + 1) 0) (at2 T (ix (w.getD k 0)) (ix (w.getD (k + 1) 0))).toNat then some ((w.take k ++ alt (w.getD (k + 1) 0) (w.getD k 0) (at2 T (ix (w.getD k 0)) (ix (w.getD (k + 1) 0))).toNat) ++ w.drop (k + (at2 T (ix (w.getD k 0)) (ix (w.getD (k + 1) 0))).toNat)) else none) else none := rfl
def oD : Option (List Int) → D
  | none => .non
  | some w => tI w
def sp__law_moved : DSp := fun ds k R => ∃ (T : Mat) (w : List Int) (e : Deed), ds = [lM T, tI w, e.d] ∧ Tab T ∧ Wd T.length w ∧ w.length ≤ 200 ∧ R (oD (mv T w e)) k
abbrev t__law_moved : DS := (dSeq (dSet 3 (dIxN 2 (dC (.int 1))))
  (dSeq (dIfS (dTB (dOp oEq (dIxN 2 (dC (.int 0))) (dC (.str "in")))) (dRet (dOp oAdd (dOp oAdd (dSl (dVar 1) dON (dOS (dVar 3))) (dTup (dCons (dIxN 2 (dC (.int 2))) (dCons (dIxN 2 (dC (.int 2))) dNil)))) (dSl (dVar 1) (dOS (dVar 3)) dON))) dNext)
  (dSeq (dIfS (dOr (dTB (dOp oGe (dOp oAdd (dVar 3) (dC (.int 1))) (dLenN 1))) (dTB (dOp oNe (dOp oEq (dIxN 1 (dVar 3)) (dIxN 1 (dOp oAdd (dVar 3) (dC (.int 1))))) (dOp oEq (dIxN 2 (dC (.int 0))) (dC (.str "out")))))) (dRet (dC .non)) dNext)
  (dSeq (dIfS (dTB (dOp oEq (dIxN 2 (dC (.int 0))) (dC (.str "out")))) (dRet (dOp oAdd (dSl (dVar 1) dON (dOS (dVar 3))) (dSl (dVar 1) (dOS (dOp oAdd (dVar 3) (dC (.int 2)))) dON))) dNext)
  (dSeq (dPar2 4 5 (dxD (dIxN 1 (dVar 3)) (dxD (dIxN 1 (dOp oAdd (dVar 3) (dC (.int 1)))) dxN)))
  (dSeq (dSet 6 (dOp oIx (dIxN 0 (dOp oSub (dVar 4) (dC (.int 1)))) (dOp oSub (dVar 5) (dC (.int 1)))))
  (dSeq (dIfS (dOr (dTB (dOp oEq (dVar 6) (dC (.int 0)))) (dTB (dOp oNe (dSl (dVar 1) (dOS (dVar 3)) (dOS (dOp oAdd (dVar 3) (dVar 6)))) (dCall sp__law_stretch (dCons (dVar 4) (dCons (dVar 5) (dCons (dVar 6) dNil))))))) (dRet (dC .non)) dNext)
  (dRet (dOp oAdd (dOp oAdd (dSl (dVar 1) dON (dOS (dVar 3))) (dCall sp__law_stretch (dCons (dVar 5) (dCons (dVar 4) (dCons (dVar 6) dNil))))) (dSl (dVar 1) (dOS (dOp oAdd (dVar 3) (dVar 6))) dON))))))))))
abbrev t_mtail : DS := (dSeq (dIfS (dOr (dTB (dOp oEq (dVar 6) (dC (.int 0)))) (dTB (dOp oNe (dSl (dVar 1) (dOS (dVar 3)) (dOS (dOp oAdd (dVar 3) (dVar 6)))) (dCall sp__law_stretch (dCons (dVar 4) (dCons (dVar 5) (dCons (dVar 6) dNil))))))) (dRet (dC .non)) dNext)
  (dRet (dOp oAdd (dOp oAdd (dSl (dVar 1) dON (dOS (dVar 3))) (dCall sp__law_stretch (dCons (dVar 5) (dCons (dVar 4) (dCons (dVar 6) dNil))))) (dSl (dVar 1) (dOS (dOp oAdd (dVar 3) (dVar 6))) dON))))
set_option maxHeartbeats 1000000 in
theorem turn_tail (X : List Addr) (T : Mat) (w : List Int) (j i l k : Nat) (R : D → Nat → Prop) (hl : w.length ≤ 200) (hj : j < w.length) (hj2 : j ≤ 200) (ht : Tab T) (hi : i < T.length) (hl' : l < T.length) (ne : i ≠ l)
    (h : R (oD (if (at2 T i l).toNat ≠ 0 ∧ (w.drop j).take (at2 T i l).toNat = alt ((i : Int) + 1) ((l : Int) + 1) (at2 T i l).toNat then some ((w.take j ++ alt ((l : Int) + 1) ((i : Int) + 1) (at2 T i l).toNat) ++ w.drop (j + (at2 T i l).toNat)) else none)) k) :
    t_mtail (En R) ⟨X, [.dat (lM T), .dat (tI w), .dat (Deed.turn j).d, .dat (.int j), .dat (.int ((i : Int) + 1)), .dat (.int ((l : Int) + 1)), .dat (.int (at2 T i l))], k⟩ := by
  have l2 : ∀ n : Nat, n ≤ 1000 → n ≤ lim := fun n h => Nat.le_trans h (by decide)
  have lc : ∀ lo hi, (cutD (w.map D.int) lo hi).length ≤ 200 := fun lo hi => by
    unfold cutD
    rw [List.length_take, List.length_drop, List.length_map]
    omega
  obtain ⟨m, hm, hm6⟩ : ∃ m : Nat, at2 T i l = (m : Int) ∧ m ≤ 6 := by
    rcases ht.of i l hi hl' (by omega) with e | e | e | e | e
    · exact ⟨2, e, by decide⟩
    · exact ⟨3, e, by decide⟩
    · exact ⟨4, e, by decide⟩
    · exact ⟨6, e, by decide⟩
    · exact ⟨0, e, by decide⟩
  rw [hm] at h ⊢
  rw [Int.toNat_natCast] at h
  have cm : cutD (w.map D.int) (some (j : Int)) (some ((j : Int) + (m : Int))) = ((w.drop j).take m).map D.int := by
    rw [cut_mid rfl (show (j : Int) + (m : Int) = ((j + m : Nat) : Int) by omega), List.map_take, List.map_drop]
  have ok : (D.tup (cutD (w.map D.int) (some (j : Int)) (some ((j : Int) + (m : Int))))).okE = true := by rw [cm]; exact okE_tupI _
  have ev : PyData.eqv (D.tup (cutD (w.map D.int) (some (j : Int)) (some ((j : Int) + (m : Int))))).py (D.tup ((alt ((i : Int) + 1) ((l : Int) + 1) ((m : Int)).toNat).map D.int)).py = decide ((w.drop j).take m = alt ((i : Int) + 1) ((l : Int) + 1) m) := by
    rw [cm, Int.toNat_natCast]
    exact eqv_tupI _ _
  refine ⟨_, rfl, rfl, rfl, _, rfl, ?_⟩
  rw [eqvI]
  refine iteD (fun e0 => iteT fun X => ?_) fun n0 => ?_
  · rw [if_neg (fun z => z.1 (by omega))] at h
    exact h
  · refine ⟨_, rfl, _, rfl, _, rfl, _, rfl, _, rfl, _, rfl, _, rfl, _, rfl, _, rfl, _, _, (m : Int), rfl, by omega, by omega, ok, okE_tupI _, _, rfl, ?_⟩
    rw [ev]
    by_cases c : (w.drop j).take m = alt ((i : Int) + 1) ((l : Int) + 1) m
    · rw [decide_eq_true c]
      rw [if_pos ⟨by omega, c⟩] at h
      refine iteF fun X => ⟨_, rfl, _, rfl, _, rfl, _, rfl, _, rfl, _, rfl, _, _, (m : Int), rfl, by omega, by omega, ?_⟩
      have al : (alt ((l : Int) + 1) ((i : Int) + 1) ((m : Int)).toNat).length = m := by unfold alt; rw [List.length_map, List.length_range, Int.toNat_natCast]
      have q1 := lc none (some (j : Int))
      have q2 := lc (some ((j : Int) + (m : Int))) none
      have q3 : (cutD (w.map D.int) none (some (j : Int))).length + ((alt ((l : Int) + 1) ((i : Int) + 1) ((m : Int)).toNat).map D.int).length ≤ lim := l2 _ (by rw [List.length_map, al]; omega)
      refine ⟨q3, _, rfl, _, rfl, _, rfl, _, rfl, l2 _ ?_, ?_⟩
      · rw [List.length_append, List.length_map, al]
        show (cutD (w.map D.int) none (some (j : Int))).length + m + (cutD (w.map D.int) (some ((j : Int) + (m : Int))) none).length ≤ 1000
        omega
      · show R (.tup ((cutD (w.map D.int) none (some (j : Int)) ++ (alt ((l : Int) + 1) ((i : Int) + 1) ((m : Int)).toNat).map D.int) ++ cutD (w.map D.int) (some ((j : Int) + (m : Int))) none)) k
        rw [cut_to rfl, cut_from (show (j : Int) + (m : Int) = ((j + m : Nat) : Int) by omega), ← List.map_take, ← List.map_drop, ← List.map_append, ← List.map_append, Int.toNat_natCast]
        exact h
    · rw [decide_eq_false c]
      rw [if_neg (fun z => c z.2)] at h
      exact iteT fun X => h
set_option maxHeartbeats 4000000 in
theorem r__law_moved (X : List Addr) (ds : List D) (k : Nat) (R : D → Nat → Prop) (h : sp__law_moved ds k R) : t__law_moved (En R) (St0 false 7 ds X k) := by
  obtain ⟨T, w, e, rfl, ht, hw, hl, h⟩ := h
  have hT := ht.hi
  have ltk : ∀ n, ((w.map D.int).take n).length ≤ 200 := fun n => by rw [List.length_take, List.length_map]; omega
  have ltd : ∀ n, ((w.map D.int).drop n).length ≤ 200 := fun n => by rw [List.length_drop, List.length_map]; omega
  have l2 : ∀ n : Nat, n ≤ 1000 → n ≤ lim := fun n h => Nat.le_trans h (by decide)
  have cto : ∀ n : Nat, cutD (w.map D.int) none (some (n : Int)) = (w.take n).map D.int := fun n => by rw [cut_to rfl, List.map_take]
  have cfr : ∀ (z : Int) (n : Nat), z = n → cutD (w.map D.int) (some z) none = (w.drop n).map D.int := fun z n e => by rw [cut_from e, List.map_drop]
  have lc : ∀ lo hi, (cutD (w.map D.int) lo hi).length ≤ 200 := fun lo hi => by
    unfold cutD
    rw [List.length_take, List.length_drop, List.length_map]
    omega
  have lt1 : ∀ n, (w.take n).length ≤ 200 := fun n => by rw [List.length_take]; omega
  have lt2 : ∀ n, (w.drop n).length ≤ 200 := fun n => by rw [List.length_drop]; omega
  have cat2 : ∀ (a b c : List Int), (a.map D.int ++ b.map D.int) ++ c.map D.int = ((a ++ b) ++ c).map D.int := fun a b c => by rw [List.map_append, List.map_append]
  cases e with
  | inn j a =>
    refine ⟨_, rfl, _, .int j, rfl, rfl, ?_⟩
    refine ⟨_, rfl, _, .str "in", rfl, rfl, _, rfl, ?_⟩
    refine iteT fun X => ⟨_, rfl, _, rfl, _, rfl, _, rfl, _, .int a, rfl, rfl, _, rfl, _, .int a, rfl, rfl, by show 2 ≤ lim; decide, ?_⟩
    have l3 : ((cutD (w.map D.int) none (some (j : Int))) ++ [D.int a, D.int a]).length + (cutD (w.map D.int) (some (j : Int)) none).length ≤ lim := l2 _ (by
      have := lc none (some (j : Int))
      have := lc (some (j : Int)) none
      rw [List.length_append]
      show _ + 2 + _ ≤ 1000
      omega)
    refine ⟨l2 _ (by have := lc none (some (j : Int)); show _ + 2 ≤ 1000; omega), _, rfl, _, rfl, _, rfl, l3, ?_⟩
    show R (.tup ((cutD (w.map D.int) none (some (j : Int)) ++ [D.int a, D.int a]) ++ cutD (w.map D.int) (some (j : Int)) none)) k
    rw [cto, cfr _ j rfl, show [D.int a, D.int a] = [a, a].map D.int from rfl, cat2]
    exact h
  | out j =>
    refine ⟨_, rfl, _, .int j, rfl, rfl, ?_⟩
    refine ⟨_, rfl, _, .str "out", rfl, rfl, _, rfl, ?_⟩
    refine iteF ⟨_, rfl, _, rfl, _, rfl, ?_⟩
    rw [List.length_map]
    refine iteD (fun ge => iteT fun X => ?_) fun lt => ?_
    · have : ¬ (j + 1 < w.length ∧ w.getD j 0 = w.getD (j + 1) 0) := fun q => by omega
      have e : mv T w (.out j) = none := by rw [mv_out]; rw [if_neg this]
      rw [e] at h
      exact h
    · have hj : j + 1 < w.length := by omega
      refine ⟨_, rfl, _, rfl, _, .int (w.getD j 0), rfl, atM 0 (by omega), _, rfl, _, rfl, _, .int (w.getD (j + 1) 0), rfl, atM (i := j + 1) 0 hj, rfl, rfl, _, rfl, _, .str "out", rfl, rfl, ?_⟩
      refine ⟨rfl, rfl, _, rfl, ?_⟩
      rw [eqvI]
      by_cases q : w.getD j 0 = w.getD (j + 1) 0
      · rw [decide_eq_true q]
        have e : mv T w (.out j) = some (w.take j ++ w.drop (j + 2)) := by rw [mv_out]; rw [if_pos ⟨hj, q⟩]
        rw [e] at h
        refine iteF ⟨_, rfl, _, .str "out", rfl, rfl, _, rfl, iteT fun X => ⟨_, rfl, _, rfl, _, rfl, _, rfl, _, rfl, _, rfl, ?_⟩⟩
        refine ⟨l2 _ (by have := lc none (some (j : Int)); have := lc (some ((j : Int) + 2)) none; omega), ?_⟩
        show R (.tup (cutD (w.map D.int) none (some (j : Int)) ++ cutD (w.map D.int) (some ((j : Int) + 2)) none)) k
        rw [cto, cfr _ (j + 2) (by omega), ← List.map_append]
        exact h
      · rw [decide_eq_false q]
        have e : mv T w (.out j) = none := by rw [mv_out]; rw [if_neg fun z => q z.2]
        rw [e] at h
        exact iteT fun X => h
  | turn j =>
    refine ⟨_, rfl, _, .int j, rfl, rfl, ?_⟩
    refine ⟨_, rfl, _, .str "turn", rfl, rfl, _, rfl, ?_⟩
    refine iteF ⟨_, rfl, _, rfl, _, rfl, ?_⟩
    rw [List.length_map]
    refine iteD (fun ge => iteT fun X => ?_) fun lt => ?_
    · have e : mv T w (.turn j) = none := by rw [mv_turn]; rw [if_neg fun q => by omega]
      rw [e] at h
      exact h
    · have hj : j + 1 < w.length := by omega
      refine ⟨_, rfl, _, rfl, _, .int (w.getD j 0), rfl, atM 0 (by omega), _, rfl, _, rfl, _, .int (w.getD (j + 1) 0), rfl, atM (i := j + 1) 0 hj, rfl, rfl, _, rfl, _, .str "turn", rfl, rfl, ?_⟩
      refine ⟨rfl, rfl, _, rfl, ?_⟩
      rw [eqvI]
      by_cases q : w.getD j 0 = w.getD (j + 1) 0
      · rw [decide_eq_true q]
        have e : mv T w (.turn j) = none := by rw [mv_turn]; rw [if_neg fun z => z.2 q]
        rw [e] at h
        exact iteT fun X => h
      · rw [decide_eq_false q]
        refine iteF ⟨_, rfl, _, .str "turn", rfl, rfl, _, rfl, iteF ?_⟩
        have ma := hw (w.getD j 0) (List.mem_of_getElem? (getD_get (d := 0) (by omega : j < w.length)))
        have mb := hw (w.getD (j + 1) 0) (List.mem_of_getElem? (getD_get (d := 0) hj))
        rw [mv_turn, if_pos ⟨hj, q⟩] at h
        generalize hA : w.getD j 0 = a at h ma q
        generalize hB : w.getD (j + 1) 0 = b at h mb q
        obtain ⟨i, rfl⟩ : ∃ i : Nat, a = (i : Int) + 1 := ⟨(a - 1).toNat, by omega⟩
        obtain ⟨l, rfl⟩ : ∃ l : Nat, b = (l : Int) + 1 := ⟨(b - 1).toNat, by omega⟩
        have hi : i < T.length := by omega
        have hl' : l < T.length := by omega
        have ei : ix ((i : Int) + 1) = i := by unfold ix; omega
        have el : ix ((l : Int) + 1) = l := by unfold ix; omega
        rw [ei, el] at h
        refine ⟨_, rfl, _, rfl, _, .int ((i : Int) + 1), rfl, by rw [← hA]; exact atM 0 (by omega), _, rfl, _, rfl, _, .int ((l : Int) + 1), rfl, by rw [← hB]; exact atM (i := j + 1) 0 hj, ?_⟩
        refine ⟨_, rfl, _, rfl, _, .lst ((T.getD i []).map D.int), rfl, by rw [show (i : Int) + 1 - 1 = (i : Int) by omega]; exact atM [] hi, _, rfl, _, .int (at2 T i l), rfl, by rw [show (l : Int) + 1 - 1 = (l : Int) by omega]; exact atM 0 (by rw [ht.sq i hi]; exact hl'), ?_⟩
        exact turn_tail X T w j i l k R hl (by omega) (by omega) ht hi hl' (by omega) h
end BW
namespace BW
open PySem L2 DL
theorem range_step {α : Type} (f : Nat → α) (j : Nat) : (List.range (j + 1)).map f = (List.range j).map f ++ [f j] := by rw [List.range_succ, List.map_append]; rfl
end BW
namespace BW
open PySem L2 DL
theorem alt_length (a b : Int) (n : Nat) : (alt a b n).length = n := by unfold alt; rw [List.length_map, List.length_range]
theorem alt_mem {a b x : Int} {n : Nat} (h : x ∈ alt a b n) : x = a ∨ x = b := by
  unfold alt at h
  obtain ⟨i, _, rfl⟩ := List.mem_map.mp h
  by_cases c : i % 2 = 0
  · rw [if_pos c]; exact .inl rfl
  · rw [if_neg c]; exact .inr rfl
def Deed.fits (n m : Nat) : Deed → Prop
  | .inn k a => k ≤ m ∧ 1 ≤ a ∧ a ≤ n
  | _ => True
theorem mv_wd {T : Mat} {w v : List Int} {e : Deed} (hw : Wd T.length w) (he : e.fits T.length w.length) (h : mv T w e = some v) : Wd T.length v := by
  have tk : ∀ n x, x ∈ w.take n → x ∈ w := fun n x h => List.mem_of_mem_take h
  have dp : ∀ n x, x ∈ w.drop n → x ∈ w := fun n x h => List.mem_of_mem_drop h
  cases e with
  | inn k a =>
    have h : (w.take k ++ [a, a]) ++ w.drop k = v := Option.some.inj h
    subst h
    intro x hx
    rcases List.mem_append.mp hx with hx | hx
    · rcases List.mem_append.mp hx with hx | hx
      · exact hw x (tk _ _ hx)
      · simp at hx
        subst hx
        exact he.2
    · exact hw x (dp _ _ hx)
  | out k =>
    rw [mv_out] at h
    split at h
    · cases h
      intro x hx
      rcases List.mem_append.mp hx with hx | hx
      · exact hw x (tk _ _ hx)
      · exact hw x (dp _ _ hx)
    · cases h
  | turn k =>
    rw [mv_turn] at h
    split at h
    · rename_i c
      split at h
      · cases h
        have ma := hw (w.getD k 0) (List.mem_of_getElem? (getD_get (d := 0) (by omega : k < w.length)))
        have mb := hw (w.getD (k + 1) 0) (List.mem_of_getElem? (getD_get (d := 0) c.1))
        intro x hx
        rcases List.mem_append.mp hx with hx | hx
        · rcases List.mem_append.mp hx with hx | hx
          · exact hw x (tk _ _ hx)
          · rcases alt_mem hx with e | e
            · rw [e]; exact mb
            · rw [e]; exact ma
        · exact hw x (dp _ _ hx)
      · cases h
    · cases h
def Deed.isIn : Deed → Bool
  | .inn _ _ => true
  | _ => false
end BW
namespace BW
open PySem L2 DL
def exLS (K : PySem.W.Frag) (t : DS) : TS := fun D σ H => ∃ c, c.K = K ∧ LS c t D σ H
theorem PS.exL {X : Cx} {st : Stmt} {K : PySem.W.Frag} {t : DS} (h : ∀ c, c.K = K → PS X st (LS c t)) : PS X st (exLS K t) := ⟨fun pins s σ H Q I ⟨c, hc, q⟩ => (h c hc).run pins s σ H Q I q⟩
def exLF (K : PySem.W.Frag) (t : DA) : TE := fun σ H Q => ∃ c, c.K = K ∧ LF c t σ H Q
theorem PE.exF {X : Cx} {e : Expr} {K : PySem.W.Frag} {t : DA} (h : ∀ c, c.K = K → PE X e (LF c t)) : PE X e (exLF K t) := ⟨fun pins s σ H Q I ⟨c, hc, q⟩ => (h c hc).run pins s σ H Q I q⟩
def exLE (K : PySem.W.Frag) (t : DE) : TE := fun σ H Q => ∃ c, c.K = K ∧ LE c t σ H Q
theorem PE.exE {X : Cx} {e : Expr} {K : PySem.W.Frag} {t : DE} (h : ∀ c, c.K = K → PE X e (LE c t)) : PE X e (exLE K t) := ⟨fun pins s σ H Q I ⟨c, hc, q⟩ => (h c hc).run pins s σ H Q I q⟩
abbrev inSc : Scope := { kind := .function, names := [(".0", .local), ("a", .cell), ("range", .globalImplicit), ("many", .cell)], isGenerator := false, isCoroutine := false }
structure Mx (H : Hp) (p : Addr) (qs : List Addr) (M : Mat) : Prop where
  top : H p = some (.lst (qs.map V.ref))
  len : qs.length = M.length
  row : ∀ (i : Nat) (q : Addr) (r : List Int), qs[i]? = some q → M[i]? = some r → H q = some (.lst (r.map V.int))
  nd : qs.Nodup
  out : p ∉ qs
theorem Mx.set {H : Hp} {p q : Addr} {qs : List Addr} {M : Mat} {i : Nat} (h : Mx H p qs M) (hq : qs[i]? = some q) (r' : List Int) : Mx (upd H q (.lst (r'.map V.int))) p qs (M.set i r') := by
  have mem := List.mem_of_getElem? hq
  have npq : p ≠ q := fun z => h.out (z ▸ mem)
  refine ⟨by rw [upd_ne npq]; exact h.top, by rw [List.length_set]; exact h.len, fun j q2 r2 h1 h2 => ?_, h.nd, h.out⟩
  by_cases e : j = i
  · subst e
    rw [hq] at h1
    cases h1
    have hl : j < M.length := by have := (List.getElem?_eq_some_iff.mp h2).1; rw [List.length_set] at this; exact this
    rw [List.getElem?_set_self hl] at h2
    cases h2
    exact upd_same
  · rw [List.getElem?_set_ne (fun z => e z.symm)] at h2
    have ne : q2 ≠ q := fun z => e (by
      subst z
      obtain ⟨h3, e3⟩ := List.getElem?_eq_some_iff.mp h1
      obtain ⟨h4, e4⟩ := List.getElem?_eq_some_iff.mp hq
      exact (List.getElem_inj h.nd).mp (e3.trans e4.symm))
    rw [upd_ne ne]
    exact h.row j q2 r2 h1 h2
structure Keep (M : Option Mc) (X0 : List Addr) (H H' : Hp) : Prop where
  ob : ∀ a o, a ∉ Ml M → H a = some o → NoTb o → H' a = some o
  tb : TbK H H'
  old : ∀ a ∈ X0, H' a = H a
theorem Keep.at {M : Option Mc} {X0 : List Addr} {H H' : Hp} (k : Keep M X0 H H') {a : Addr} {o : HO} (n : a ∉ Ml M) (e : H a = some o) (h : NoTb o := by intro _ z; cases z) : H' a = some o := k.ob a o n e h
theorem Keep.refl {M : Option Mc} {X0 : List Addr} {H : Hp} : Keep M X0 H H := ⟨fun _ _ _ h _ => h, .refl, fun _ _ => rfl⟩
theorem Keep.trans {M : Option Mc} {X0 : List Addr} {H H1 H2 : Hp} (a : Keep M X0 H H1) (b : Keep M X0 H1 H2) : Keep M X0 H H2 := ⟨fun x o n h t => b.ob x o n (a.ob x o n h t) t, a.tb.trans b.tb, fun x h => (b.old x h).trans (a.old x h)⟩
theorem Keep.new {M : Option Mc} {X0 : List Addr} {H H1 : Hp} {p : Addr} {o : HO} (k : Keep M X0 H H1) (xs : ∀ a ∈ X0, H a ≠ none) (h : H1 p = none) : Keep M X0 H (upd H1 p o) := ⟨fun a u n e t => by rw [upd_ne (ne_of_none (k.ob a u n e t) h)]; exact k.ob a u n e t, k.tb.trans (.new h), fun a ha => by
  rw [upd_ne (fun z => xs a ha (by rw [← k.old a ha, z]; exact h))]; exact k.old a ha⟩
theorem Keep.mut {M : Option Mc} {X0 : List Addr} {H H1 : Hp} {p : Addr} {o : HO} (k : Keep M X0 H H1) (xs : ∀ a ∈ X0, H a ≠ none) (h : H p = none) (tb : TbK H1 (upd H1 p o)) : Keep M X0 H (upd H1 p o) := ⟨fun a u n e t => by rw [upd_ne (ne_of_none e h)]; exact k.ob a u n e t, k.tb.trans tb, fun a ha => by
  rw [upd_ne (fun z => xs a ha (by rw [z]; exact h))]; exact k.old a ha⟩
theorem Keep.rep {c : C} {s : S} {σ : L2.St} {H2 : Hp} (r : Rep c s σ H2) (xm : ∀ a ∈ c.X0, a ∉ Ml c.M) (xs : ∀ a ∈ c.X0, c.H0 a ≠ none) : Keep c.M c.X0 c.H0 H2 := ⟨fun a o n e t => by
  by_cases z : a ∈ c.X0
  · rw [r.old a z n (xs a z)]; exact e
  · exact (wo_ne (r.sub a o (wo_of (fun y => (List.mem_append.mp y).elim n z) e t))).2, r.tb, fun a ha => r.old a ha (xm a ha) (xs a ha)⟩
theorem Keep.fresh {M : Option Mc} {X0 : List Addr} {H H' : Hp} (k : Keep M X0 H H') {a : Addr} (n : a ∉ Ml M) (h : H' a = none) : H a = none := by
  cases e : H a with
  | none => rfl
  | some o =>
    by_cases t : NoTb o
    · rw [k.ob a o n e t] at h; cases h
    · refine (t fun ps z => ?_).elim
      subst z
      obtain ⟨qs, q⟩ := k.tb.tbl a ps e
      rw [h] at q; cases q
theorem rep_of {K : PySem.W.Frag} {M : Option Mc} {X0 : List Addr} {H : Hp} {σ : L2.St} {sl : List Sl} {k : Nat} (xm : ∀ a ∈ X0, a ∉ Ml M) (xs : ∀ a ∈ X0, H a ≠ none) (xt : ∀ a ∈ X0, ∀ ps, H a ≠ some (.tbl ps)) (hl : sl.length = σ.length) (hm : MAt M H k) (h : ∀ (i : Nat) (x : Sl), sl[i]? = some x → SlOk ⟨K, M, X0, H, []⟩ X0 H σ[i]? x)
    (no : ∀ (i : Nat) (p : Addr) (ds : List D), sl[i]? ≠ some (.own p ds)) : Rep ⟨K, M, X0, H, []⟩ ⟨X0, sl, k⟩ σ H :=
  ⟨Sub.refl _, fun _ _ _ _ => rfl, fun _ h => h, xm, xs, hm, h, fun i j p q ds es e _ _ => absurd e (no i p ds), hl, .refl, xt⟩
def idr (n i : Nat) : List Int := (List.range n).map fun j => if i = j then 1 else 2
def kin (n : Nat) (f : Bool) (c : Nat) : Int := if f = true ∧ c + 2 = n then 4 else 3
def pmE (n : Nat) (f : Bool) (a i j : Nat) : Int := if i = j then 1 else if j = i + 1 ∧ i < a then kin n f i else if i = j + 1 ∧ j < a then kin n f j else 2
def pm (n : Nat) (f : Bool) (a : Nat) : Mat := (List.range n).map fun i => (List.range n).map fun j => pmE n f a i j
def idM (n : Nat) : Mat := (List.range n).map (idr n)
theorem RlA_of {K : PySem.W.Frag} {A : Hp} : ∀ {vs : List V} {ds : List D}, vs.length = ds.length → (∀ (i : Nat) (v : V) (d : D), vs[i]? = some v → ds[i]? = some d → Rl K A v d) → RlA K A vs ds
  | [], [], _, _ => .nil
  | [], _ :: _, h, _ => by cases h
  | _ :: _, [], h, _ => by cases h
  | v :: vs, d :: ds, h, f => .cons (f 0 v d rfl rfl) (RlA_of (Nat.succ.inj h) fun i x y h1 h2 => f (i + 1) x y h1 h2)
theorem Mx.rl {K : PySem.W.Frag} {H : Hp} {p : Addr} {qs : List Addr} {M : Mat} {hid : List Addr} (h : Mx H p qs M) (hp : p ∉ hid) (hq : ∀ q ∈ qs, q ∉ hid) : Rl K (wo H hid) (.ref p) (lM M) := by
  refine .lst (wo_of hp h.top) (RlA_of (by rw [List.length_map, List.length_map]; exact h.len) fun i v d h1 h2 => ?_)
  rw [List.getElem?_map] at h1 h2
  obtain ⟨q, hq1, rfl⟩ := Option.map_eq_some_iff.mp h1
  obtain ⟨r, hr, rfl⟩ := Option.map_eq_some_iff.mp h2
  exact .lst (wo_of (hq q (List.mem_of_getElem? hq1)) (h.row i q r hq1 hr)) (RlA.ints r)
theorem Keep.aft {K : PySem.W.Frag} {M : Option Mc} {X0 : List Addr} {H H' : Hp} {k : Nat} (h : Keep M X0 H H') (hm : MAt M H' k) : Aft K M X0 H H' k := by
  refine ⟨fun a o e => ?_, h.old, hm, h.tb⟩
  have t := wo_tb e
  obtain ⟨n, e⟩ := wo_ne e
  exact wo_of n (h.ob a o (fun z => n (List.mem_append_left _ z)) e t) t
theorem seqAsg {te : TE} {g : TG} {u : TS} {D : Ends} {σ : L2.St} {H : Hp} (h : te σ H fun x H1 => g x σ H1 (u D)) : tSeq (tAsg te g) u D σ H := h
theorem Mx.keepT {H : Hp} {p : Addr} {qs : List Addr} {M : Mat} {T : Addr} {o : HO} (h : Mx H p qs M) (hT : H T = none) : Mx (upd H T o) p qs M :=
  ⟨by rw [upd_ne (ne_of_none h.top hT)]; exact h.top, h.len, fun i q r h1 h2 => by rw [upd_ne (ne_of_none (h.row i q r h1 h2) hT)]; exact h.row i q r h1 h2, h.nd, h.out⟩
theorem set_range {β : Type} {n : Nat} {g g' : Nat → β} {i : Nat} {v : β} (h : ∀ j, j < n → g' j = if j = i then v else g j) : ((List.range n).map g).set i v = (List.range n).map g' := by
  refine List.ext_getElem? fun j => ?_
  rw [List.getElem?_set]
  by_cases hj : j < n
  · rw [List.length_map, List.length_range, List.getElem?_map, List.getElem?_map, List.getElem?_range hj]
    by_cases e : i = j
    · subst e
      rw [if_pos rfl, if_pos hj]
      show some v = some (g' i)
      rw [h i hj, if_pos rfl]
    · rw [if_neg e]
      show some (g j) = some (g' j)
      rw [h j hj, if_neg (fun z => e z.symm)]
  · have e1 : ((List.range n).map g)[j]? = none := by rw [List.getElem?_map, List.getElem?_eq_none (by rw [List.length_range]; omega)]; rfl
    have e2 : ((List.range n).map g')[j]? = none := by rw [List.getElem?_map, List.getElem?_eq_none (by rw [List.length_range]; omega)]; rfl
    rw [e1, e2]
    by_cases e : i = j
    · rw [if_pos e, if_neg (by rw [List.length_map, List.length_range]; omega)]
    · rw [if_neg e]
theorem getD_range {β : Type} {n i : Nat} {g : Nat → β} {d : β} (h : i < n) : ((List.range n).map g).getD i d = g i := by
  rw [List.getD_eq_getElem?_getD, List.getElem?_map, List.getElem?_range h]
  rfl
end BW
namespace BW
open PySem L2 DL
theorem ix_succ (i : Nat) : ix ((i : Int) + 1) = i := by unfold ix; omega
theorem ext_getD {p q : List Int} (hl : p.length = q.length) (h : ∀ j, j < p.length → p.getD j 0 = q.getD j 0) : p = q := by
  refine List.ext_getElem? fun j => ?_
  by_cases hj : j < p.length
  · rw [getD_get (d := 0) hj, getD_get (d := 0) (by omega), h j hj]
  · rw [List.getElem?_eq_none (by omega), List.getElem?_eq_none (by omega)]
end BW
namespace BW
open PySem L2 DL
theorem wts_of {k : Int} (h : k = 2 ∨ k = 3 ∨ k = 4 ∨ k = 6 ∨ k = 0) : wts k = (0, 0) ∧ k = 2 ∨ wts k = (1, 1) ∧ k = 3 ∨ wts k = (1, 2) ∧ k = 4 ∨ wts k = (1, 3) ∧ k = 6 ∨ wts k = (2, 2) ∧ k = 0 := by
  rcases h with rfl | rfl | rfl | rfl | rfl
  · exact .inl ⟨rfl, rfl⟩
  · exact .inr (.inl ⟨rfl, rfl⟩)
  · exact .inr (.inr (.inl ⟨rfl, rfl⟩))
  · exact .inr (.inr (.inr (.inl ⟨rfl, rfl⟩)))
  · exact .inr (.inr (.inr (.inr ⟨rfl, rfl⟩)))
theorem wt_two {T : Mat} (ht : Tab T) {i j : Nat} (hi : i < T.length) (hj : j < T.length) (ne : i ≠ j) :
    (at2 T i j = 2 ∧ wt T i j = 0 ∧ wt T j i = 0) ∨ (at2 T i j = 3 ∧ wt T i j = 1 ∧ wt T j i = 1) ∨ (at2 T i j = 4 ∧ wt T i j = 1 ∧ wt T j i = 2) ∨ (at2 T i j = 4 ∧ wt T i j = 2 ∧ wt T j i = 1) ∨ (at2 T i j = 6 ∧ wt T i j = 1 ∧ wt T j i = 3) ∨ (at2 T i j = 6 ∧ wt T i j = 3 ∧ wt T j i = 1) ∨ (at2 T i j = 0 ∧ wt T i j = 2 ∧ wt T j i = 2) := by
  have sy := ht.sy i j hi hj
  have w1 : wt T i j = if i < j then (wts (at2 T i j)).1 else (wts (at2 T i j)).2 := by unfold wt; rw [if_neg ne]
  have w2 : wt T j i = if j < i then (wts (at2 T i j)).1 else (wts (at2 T i j)).2 := by unfold wt; rw [if_neg (fun z => ne z.symm), ← sy]
  by_cases h : i < j
  · rw [if_pos h] at w1
    rw [if_neg (by omega)] at w2
    rcases wts_of (ht.of i j hi hj ne) with ⟨e, e2⟩ | ⟨e, e2⟩ | ⟨e, e2⟩ | ⟨e, e2⟩ | ⟨e, e2⟩ <;> rw [e] at w1 w2 <;> simp only [] at w1 w2 <;> omega
  · rw [if_neg h] at w1
    rw [if_pos (by omega)] at w2
    rcases wts_of (ht.of i j hi hj ne) with ⟨e, e2⟩ | ⟨e, e2⟩ | ⟨e, e2⟩ | ⟨e, e2⟩ | ⟨e, e2⟩ <;> rw [e] at w1 w2 <;> simp only [] at w1 w2 <;> omega
theorem car_of {T : Mat} (ht : Tab T) : TT.Car T.length (wt T) := by
  refine ⟨fun i _ => by unfold wt; rw [if_pos rfl], fun i j hi hj ne => ?_⟩
  have := wt_two ht hi hj ne
  omega
def pg (n : Nat) (r : List Int) (x : TT.Vec) : Int := TT.sm (fun j => r.getD j 0 * x j) n
theorem pg_mv {n : Nat} {r : List Int} {x : TT.Vec} {t : Int} {b : Nat} (hb : b < n) : pg n r (TT.mv x t b) = pg n r x + r.getD b 0 * t := by
  unfold pg
  rw [TT.sm_congr (g := fun a => r.getD a 0 * x a + t * (r.getD a 0 * TT.eb b a)) (fun j _ => by rw [TT.mv_dif, Int.mul_add, Int.mul_left_comm]), TT.sm_add, TT.sm_mul, TT.sm_eb hb, Int.mul_comm t]
theorem press_get {T : Mat} {r : List Int} {i j : Nat} (hj : j < T.length) : (press T r i).getD j 0 = r.getD j 0 + wt T i j * r.getD i 0 := by unfold press; rw [getD_range hj]
theorem press_len (T : Mat) (r : List Int) (i : Nat) : (press T r i).length = T.length := by unfold press; rw [List.length_map, List.length_range]
theorem pg_press {T : Mat} {r : List Int} {x : TT.Vec} {i : Nat} (hi : i < T.length) : pg T.length (press T r i) x = pg T.length r (TT.sg T.length (wt T) i x) := by
  unfold TT.sg
  rw [pg_mv hi]
  unfold pg TT.pr
  rw [TT.sm_congr (g := fun j => r.getD j 0 * x j + r.getD i 0 * (wt T i j * x j)) (fun j hj => by
    rw [press_get hj, Int.add_mul, Int.mul_comm (wt T i j) (r.getD i 0), Int.mul_assoc]), TT.sm_add, TT.sm_mul]
def pl (T : Mat) (r : List Int) (w : List Int) : List Int := w.foldl (fun r a => press T r (ix a)) r
theorem row_pl (T : Mat) (w : List Int) : row T w = pl T (one T) w := rfl
theorem pl_len {T : Mat} : ∀ {w : List Int} {r : List Int}, r.length = T.length → (pl T r w).length = T.length
  | [], _, h => h
  | a :: w, r, h => pl_len (w := w) (press_len T r (ix a))
theorem ix_lt {n : Nat} {a : Int} (h : 1 ≤ a ∧ a ≤ n) : ix a < n := by unfold ix; omega
theorem lets_of {n : Nat} {w : List Int} (h : Wd n w) : TT.lets n (w.map ix) := fun a ha => by
  obtain ⟨z, hz, rfl⟩ := List.mem_map.mp ha
  exact ix_lt (h z hz)
theorem pg_pl {T : Mat} {x : TT.Vec} : ∀ {w : List Int} {r : List Int}, Wd T.length w → pg T.length (pl T r w) x = pg T.length r (TT.act T.length (wt T) (w.map ix) x)
  | [], _, _ => rfl
  | a :: w, r, h => by
    show pg T.length (pl T (press T r (ix a)) w) x = pg T.length r (TT.sg T.length (wt T) (ix a) (TT.act T.length (wt T) (w.map ix) x))
    rw [pg_pl (fun z hz => h z (List.mem_cons_of_mem _ hz)), pg_press (ix_lt (h a List.mem_cons_self))]
theorem pg_eb {n : Nat} {r : List Int} {c : Nat} (hc : c < n) : pg n r (TT.eb c) = r.getD c 0 := TT.sm_eb (f := fun j => r.getD j 0) hc
theorem pg_one {T : Mat} {x : TT.Vec} : pg T.length (one T) x = TT.sm x T.length := by
  refine TT.sm_congr fun j hj => ?_
  have : (one T).getD j 0 = 1 := by unfold one; rw [List.getD_eq_getElem?_getD, List.getElem?_replicate, if_pos hj]; rfl
  rw [this, Int.one_mul]
theorem row_hv {T : Mat} {w : List Int} (h : Wd T.length w) {c : Nat} (hc : c < T.length) : (row T w).getD c 0 = TT.hv T.length (wt T) (w.map ix) c := by
  rw [← pg_eb hc, row_pl, pg_pl h, pg_one]
  rfl
theorem one_len (T : Mat) : (one T).length = T.length := by unfold one; exact List.length_replicate
theorem row_eq_iff {T : Mat} {w v : List Int} (hw : Wd T.length w) (hv : Wd T.length v) : row T w = row T v ↔ TT.Rw T.length (wt T) (w.map ix) (v.map ix) := by
  constructor
  · intro h c hc
    rw [← row_hv hw hc, ← row_hv hv hc, h]
  · intro h
    refine ext_getD (by rw [row_length, row_length]) fun j hj => ?_
    rw [row_length] at hj
    rw [row_hv hw hj, row_hv hv hj]
    exact h j hj
theorem row_nz {T : Mat} (ht : Tab T) {w : List Int} (hw : Wd T.length w) {c : Nat} (hc : c < T.length) : (row T w).getD c 0 ≠ 0 := by
  rw [row_hv hw hc]
  exact TT.hv_ne (car_of ht) hc (lets_of hw)
theorem row_snoc {T : Mat} {w : List Int} {a : Int} : row T (w ++ [a]) = press T (row T w) (ix a) := by unfold row; rw [List.foldl_append]; rfl
theorem wd_app {n : Nat} {u v : List Int} (hu : Wd n u) (hv : Wd n v) : Wd n (u ++ v) := fun a ha => (List.mem_append.mp ha).elim (hu a) (hv a)
theorem wd_one {n : Nat} {i : Nat} (h : i < n) : Wd n [(i : Int) + 1] := fun a ha => by simp at ha; omega
abbrev LN (T : Mat) (w : List Int) (k : Nat) : Prop := TT.Ln T.length (wt T) (w.map ix) k
theorem fall_none {r : List Int} (h : fall r = []) {c : Nat} (hc : c < r.length) : 0 ≤ r.getD c 0 := by
  unfold fall at h
  have h2 := List.map_eq_nil_iff.mp h
  by_cases q : r.getD c 0 < 0
  · have : c ∈ (List.range r.length).filter fun i => decide (r.getD i 0 < 0) := List.mem_filter.mpr ⟨List.mem_range.mpr hc, decide_eq_true q⟩
    rw [h2] at this
    cases this
  · omega
theorem LN.none {T : Mat} (ht : Tab T) {w : List Int} (hw : Wd T.length w) {k : Nat} (h : LN T w k) (hf : fall (row T w) = []) : k = 0 ∧ row T w = one T := by
  have hk : k = 0 := h.of_pos (car_of ht) (lets_of hw) fun c hc => by
    have h1 := fall_none hf (c := c) (by rw [row_length]; exact hc)
    have h2 := row_nz ht hw hc
    rw [row_hv hw hc] at h1 h2
    omega
  refine ⟨hk, ext_getD (by rw [row_length, one_len]) fun j hj => ?_⟩
  rw [row_length] at hj
  rw [row_hv hw hj]
  subst hk
  rw [h.zero j hj]
  unfold one
  rw [List.getD_eq_getElem?_getD, List.getElem?_replicate, if_pos hj]
  rfl
theorem LN.step {T : Mat} (ht : Tab T) {w : List Int} (hw : Wd T.length w) {k : Nat} (h : LN T w k) {a : Int} (ha : a ∈ fall (row T w)) : ∃ j, k = j + 1 ∧ LN T (w ++ [a]) j ∧ Wd T.length (w ++ [a]) ∧ press T (row T w) (ix a) = row T (w ++ [a]) := by
  obtain ⟨i, rfl, hi, hn⟩ := fall_mem ha
  rw [row_length] at hi
  have ei : ix ((i : Int) + 1) = i := by unfold ix; omega
  rw [row_hv hw hi] at hn
  obtain ⟨j, e, hj⟩ := h.down (car_of ht) hi (lets_of hw) hn
  refine ⟨j, e, ?_, wd_app hw (wd_one hi), row_snoc.symm⟩
  show TT.Ln T.length (wt T) ((w ++ [(i : Int) + 1]).map ix) j
  rw [List.map_append, List.map_cons, List.map_nil, ei]
  exact hj
theorem wd_len {T : Mat} (ht : Tab T) : ∀ (k : Nat) {w : List Int} {f : Nat}, Wd T.length w → LN T w k → k ≤ f → (wd T f (row T w)).1.length = k ∧ (wd T f (row T w)).2 = one T
  | k, w, f, hw, h, hf => by
    cases e : fall (row T w) with
    | nil =>
      obtain ⟨rfl, e2⟩ := h.none ht hw e
      rw [wd_nil e]
      exact ⟨rfl, e2⟩
    | cons a q =>
      obtain ⟨j, rfl, h1, h2, h3⟩ := h.step ht hw (a := a) (by rw [e]; exact List.mem_cons_self)
      obtain ⟨g, rfl⟩ : ∃ g, f = g + 1 := ⟨f - 1, by omega⟩
      rw [wd_cons e, h3]
      obtain ⟨i1, i2⟩ := wd_len ht j (f := g) h2 h1 (by omega)
      refine ⟨?_, i2⟩
      show (wd T g (row T (w ++ [a]))).1.length + 1 = j + 1
      rw [i1]
theorem LN.has {T : Mat} {w : List Int} (hw : Wd T.length w) : ∃ k, LN T w k ∧ k ≤ w.length := by
  obtain ⟨k, h⟩ := TT.Ln.has (W := wt T) (lets_of hw)
  exact ⟨k, h, by have := h.le_len (lets_of hw); rw [List.length_map] at this; exact this⟩
section
variable {n : Nat} {W : Nat → Nat → Int}
theorem sgV_b (C : TT.Car n W) {b c : Nat} (hb : b < n) (hc : c < n) (ne : c ≠ b) {x : TT.Vec} {s t : Int} : TT.sg n W b (TT.VV x b c s t) = TT.VV x b c (TT.pr n W b x - s + W b c * t) t := by
  unfold TT.sg
  rw [TT.pr_mv hc, TT.pr_mv hb, C.dg b hb, TT.mv_comm ne, TT.mv_mv]
  congr 2
  omega
theorem sgV_c (C : TT.Car n W) {b c : Nat} (hb : b < n) (hc : c < n) {x : TT.Vec} {s t : Int} : TT.sg n W c (TT.VV x b c s t) = TT.VV x b c s (TT.pr n W c x + W c b * s - t) := by
  unfold TT.sg
  rw [TT.pr_mv hc, TT.pr_mv hb, C.dg c hc, TT.mv_mv]
  congr 1
  omega
theorem V00 {b c : Nat} {x : TT.Vec} : x = TT.VV x b c 0 0 := by
  show x = TT.mv (TT.mv x 0 b) 0 c
  rw [TT.mv_zero, TT.mv_zero]
def alN (a b : Nat) : Nat → List Nat
  | 0 => []
  | k + 1 => a :: alN b a k
theorem braid (C : TT.Car n W) {b c : Nat} (hb : b < n) (hc : c < n) (ne : b ≠ c) {m : Nat} (hm : (m = 2 ∧ W b c = 0 ∧ W c b = 0) ∨ (m = 3 ∧ W b c = 1 ∧ W c b = 1) ∨ (m = 4 ∧ W b c = 1 ∧ W c b = 2) ∨ (m = 4 ∧ W b c = 2 ∧ W c b = 1) ∨ (m = 6 ∧ W b c = 1 ∧ W c b = 3) ∨ (m = 6 ∧ W b c = 3 ∧ W c b = 1)) (x : TT.Vec) :
    TT.act n W (alN b c m) x = TT.act n W (alN c b m) x := by
  have hB := fun s t => sgV_b C hb hc (fun z => ne z.symm) (x := x) (s := s) (t := t)
  have hC := fun s t => sgV_c C hb hc (x := x) (s := s) (t := t)
  have h0 := V00 (b := b) (c := c) (x := x)
  generalize TT.pr n W b x = P at hB
  generalize TT.pr n W c x = Q at hC
  generalize hV : TT.VV x b c = V at *
  rcases hm with ⟨rfl, u, v⟩ | ⟨rfl, u, v⟩ | ⟨rfl, u, v⟩ | ⟨rfl, u, v⟩ | ⟨rfl, u, v⟩ | ⟨rfl, u, v⟩ <;> rw [u] at hB <;> rw [v] at hC <;> rw [h0] <;> unfold TT.act <;> simp only [alN, List.foldr_cons, List.foldr_nil, hB, hC] <;> congr 1 <;> omega
end
end BW
namespace BW
open PySem L2 DL
theorem alt_succ (a b : Int) (n : Nat) : alt a b (n + 1) = a :: alt b a n := by
  unfold alt
  rw [List.range_succ_eq_map, List.map_cons, List.map_map]
  congr 1
  refine List.map_congr_left fun i _ => ?_
  show (if (i + 1) % 2 = 0 then a else b) = if i % 2 = 0 then b else a
  by_cases h : i % 2 = 0
  · rw [if_pos h, if_neg (by omega)]
  · rw [if_neg h, if_pos (by omega)]
theorem alt_ix (i j : Nat) : ∀ n, (alt ((i : Int) + 1) ((j : Int) + 1) n).map ix = alN i j n
  | 0 => rfl
  | n + 1 => by
    rw [alt_succ, List.map_cons, alt_ix j i n]
    show ix ((i : Int) + 1) :: _ = i :: _
    rw [ix_succ]
theorem alt_wd {n : Nat} {a b : Int} (ha : 1 ≤ a ∧ a ≤ n) (hb : 1 ≤ b ∧ b ≤ n) (m : Nat) : Wd n (alt a b m) := fun z hz => by
  unfold alt at hz
  obtain ⟨i, _, rfl⟩ := List.mem_map.mp hz
  split
  · exact ha
  · exact hb
theorem alt_len (a b : Int) (n : Nat) : (alt a b n).length = n := by unfold alt; rw [List.length_map, List.length_range]
theorem pl_alt {T : Mat} (ht : Tab T) {r : List Int} (hr : r.length = T.length) {i j : Nat} (hi : i < T.length) (hj : j < T.length) (ne : i ≠ j) (h : 0 < at2 T i j) :
    pl T r (alt ((i : Int) + 1) ((j : Int) + 1) (at2 T i j).toNat) = pl T r (alt ((j : Int) + 1) ((i : Int) + 1) (at2 T i j).toNat) := by
  refine ext_getD (by rw [pl_len hr, pl_len hr]) fun c hc => ?_
  rw [pl_len hr] at hc
  have a1 : Wd T.length (alt ((i : Int) + 1) ((j : Int) + 1) (at2 T i j).toNat) := alt_wd ⟨by omega, by omega⟩ ⟨by omega, by omega⟩ _
  have a2 : Wd T.length (alt ((j : Int) + 1) ((i : Int) + 1) (at2 T i j).toNat) := alt_wd ⟨by omega, by omega⟩ ⟨by omega, by omega⟩ _
  have hm : ((at2 T i j).toNat = 2 ∧ wt T i j = 0 ∧ wt T j i = 0) ∨ ((at2 T i j).toNat = 3 ∧ wt T i j = 1 ∧ wt T j i = 1) ∨ ((at2 T i j).toNat = 4 ∧ wt T i j = 1 ∧ wt T j i = 2) ∨ ((at2 T i j).toNat = 4 ∧ wt T i j = 2 ∧ wt T j i = 1) ∨ ((at2 T i j).toNat = 6 ∧ wt T i j = 1 ∧ wt T j i = 3) ∨ ((at2 T i j).toNat = 6 ∧ wt T i j = 3 ∧ wt T j i = 1) := by
    rcases wt_two ht hi hj ne with ⟨e, u, v⟩ | ⟨e, u, v⟩ | ⟨e, u, v⟩ | ⟨e, u, v⟩ | ⟨e, u, v⟩ | ⟨e, u, v⟩ | ⟨e, u, v⟩
    · exact .inl ⟨by rw [e]; rfl, u, v⟩
    · exact .inr (.inl ⟨by rw [e]; rfl, u, v⟩)
    · exact .inr (.inr (.inl ⟨by rw [e]; rfl, u, v⟩))
    · exact .inr (.inr (.inr (.inl ⟨by rw [e]; rfl, u, v⟩)))
    · exact .inr (.inr (.inr (.inr (.inl ⟨by rw [e]; rfl, u, v⟩))))
    · exact .inr (.inr (.inr (.inr (.inr ⟨by rw [e]; rfl, u, v⟩))))
    · rw [e] at h; exact absurd h (by decide)
  rw [← pg_eb hc, ← pg_eb hc, pg_pl a1, pg_pl a2, alt_ix, alt_ix, braid (car_of ht) hi hj ne hm]
end BW
namespace BW
open PySem L2 DL
theorem step2 {T : Mat} (ht : Tab T) {w : List Int} (hw : Wd T.length w) {k : Nat} (h : LN T w k) {i j : Nat} (hi : i < T.length) (hj : j < T.length) {x y u : Int} (ex : (row T w).getD i 0 = x) (ey : (row T w).getD j 0 = y) (eu : wt T i j = u) (nx : x < 0) :
    ∃ l, k = l + 1 ∧ LN T (w ++ [(i : Int) + 1]) l ∧ Wd T.length (w ++ [(i : Int) + 1]) ∧ (row T (w ++ [(i : Int) + 1])).getD i 0 = -x ∧ (row T (w ++ [(i : Int) + 1])).getD j 0 = y + u * x := by
  have em : (w ++ [(i : Int) + 1]).map ix = w.map ix ++ [i] := by rw [List.map_append, List.map_cons, List.map_nil, ix_succ]
  have hn : TT.hv T.length (wt T) (w.map ix) i < 0 := by rw [← row_hv hw hi, ex]; exact nx
  obtain ⟨l, e, hl⟩ := h.down (car_of ht) hi (lets_of hw) hn
  have e1 : wt T i i = -2 := by unfold wt; rw [if_pos rfl]
  refine ⟨l, e, ?_, wd_app hw (wd_one hi), ?_, ?_⟩
  · show TT.Ln T.length (wt T) ((w ++ [(i : Int) + 1]).map ix) l
    rw [em]
    exact hl
  · rw [row_snoc, ix_succ, press_get hi, ex, e1]
    omega
  · rw [row_snoc, ix_succ, press_get hj, ex, ey, eu]
theorem LN.one_of {T : Mat} (ht : Tab T) {w : List Int} (hw : Wd T.length w) (h : LN T w 0) {i : Nat} (hi : i < T.length) : (row T w).getD i 0 = 1 := by
  rw [row_hv hw hi]
  exact TT.Ln.zero h i hi
theorem no_free {T : Mat} (ht : Tab T) {i j : Nat} (hi : i < T.length) (hj : j < T.length) (eu : wt T i j = 2) (ev : wt T j i = 2) : ∀ (k : Nat) {w : List Int}, Wd T.length w → LN T w k → (row T w).getD i 0 + (row T w).getD j 0 < 0 → False
  | 0, w, hw, h, s => by rw [h.one_of ht hw hi, h.one_of ht hw hj] at s; omega
  | k + 1, w, hw, h, s => by
    by_cases c : (row T w).getD i 0 < 0
    · obtain ⟨l, e, h1, h2, h3, h4⟩ := step2 ht hw h hi hj rfl rfl eu c
      obtain rfl : k = l := by omega
      exact no_free ht hi hj eu ev k h2 h1 (by rw [h3, h4]; omega)
    · obtain ⟨l, e, h1, h2, h3, h4⟩ := step2 ht hw h hj hi rfl rfl ev (by omega : (row T w).getD j 0 < 0)
      obtain rfl : k = l := by omega
      exact no_free ht hi hj eu ev k h2 h1 (by rw [h3, h4]; omega)
inductive Dn (T : Mat) : Nat → Nat → Nat → List Int → Nat → Prop
  | zero {i j : Nat} {w : List Int} {k : Nat} : LN T w k → Dn T i j 0 w k
  | succ {i j m : Nat} {w : List Int} {k : Nat} : Dn T j i m (w ++ [(i : Int) + 1]) k → Dn T i j (m + 1) w (k + 1)
theorem Dn.end_ {T : Mat} : ∀ {m i j : Nat} {w : List Int} {k : Nat}, Dn T i j m w k → ∃ l, k = l + m ∧ LN T (w ++ alt ((i : Int) + 1) ((j : Int) + 1) m) l
  | 0, i, j, w, k, h => by
    cases h with
    | zero h => exact ⟨k, rfl, by rw [show alt ((i : Int) + 1) ((j : Int) + 1) 0 = [] from rfl, List.append_nil]; exact h⟩
  | m + 1, i, j, w, _, h => by
    cases h with
    | succ h =>
      obtain ⟨l, e, hl⟩ := h.end_
      refine ⟨l, by omega, ?_⟩
      rw [alt_succ, show w ++ ((i : Int) + 1) :: alt ((j : Int) + 1) ((i : Int) + 1) m = (w ++ [(i : Int) + 1]) ++ alt ((j : Int) + 1) ((i : Int) + 1) m by rw [List.append_assoc]; rfl]
      exact hl
theorem dn_two {T : Mat} (ht : Tab T) {w : List Int} (hw : Wd T.length w) {k : Nat} (h : LN T w k) {i j : Nat} (hi : i < T.length) (hj : j < T.length) (ne : i ≠ j) (ni : (row T w).getD i 0 < 0) (nj : (row T w).getD j 0 < 0) :
    0 < at2 T i j ∧ Dn T i j (at2 T i j).toNat w k := by
  generalize ex : (row T w).getD i 0 = x at ni
  generalize ey : (row T w).getD j 0 = y at nj
  rcases wt_two ht hi hj ne with ⟨e, u, v⟩ | ⟨e, u, v⟩ | ⟨e, u, v⟩ | ⟨e, u, v⟩ | ⟨e, u, v⟩ | ⟨e, u, v⟩ | ⟨e, u, v⟩
  · rw [e]
    refine ⟨by decide, ?_⟩
    obtain ⟨k1, rfl, h1, w1, x1, y1⟩ := step2 ht hw h hi hj ex ey u ni
    obtain ⟨k2, rfl, h2, w2, x2, y2⟩ := step2 ht w1 h1 hj hi y1 x1 v (by omega)
    exact .succ (.succ (.zero h2))
  · rw [e]
    refine ⟨by decide, ?_⟩
    obtain ⟨k1, rfl, h1, w1, x1, y1⟩ := step2 ht hw h hi hj ex ey u ni
    obtain ⟨k2, rfl, h2, w2, x2, y2⟩ := step2 ht w1 h1 hj hi y1 x1 v (by omega)
    obtain ⟨k3, rfl, h3, w3, x3, y3⟩ := step2 ht w2 h2 hi hj y2 x2 u (by omega)
    exact .succ (.succ (.succ (.zero h3)))
  · rw [e]
    refine ⟨by decide, ?_⟩
    obtain ⟨k1, rfl, h1, w1, x1, y1⟩ := step2 ht hw h hi hj ex ey u ni
    obtain ⟨k2, rfl, h2, w2, x2, y2⟩ := step2 ht w1 h1 hj hi y1 x1 v (by omega)
    obtain ⟨k3, rfl, h3, w3, x3, y3⟩ := step2 ht w2 h2 hi hj y2 x2 u (by omega)
    obtain ⟨k4, rfl, h4, w4, x4, y4⟩ := step2 ht w3 h3 hj hi y3 x3 v (by omega)
    exact .succ (.succ (.succ (.succ (.zero h4))))
  · rw [e]
    refine ⟨by decide, ?_⟩
    obtain ⟨k1, rfl, h1, w1, x1, y1⟩ := step2 ht hw h hi hj ex ey u ni
    obtain ⟨k2, rfl, h2, w2, x2, y2⟩ := step2 ht w1 h1 hj hi y1 x1 v (by omega)
    obtain ⟨k3, rfl, h3, w3, x3, y3⟩ := step2 ht w2 h2 hi hj y2 x2 u (by omega)
    obtain ⟨k4, rfl, h4, w4, x4, y4⟩ := step2 ht w3 h3 hj hi y3 x3 v (by omega)
    exact .succ (.succ (.succ (.succ (.zero h4))))
  · rw [e]
    refine ⟨by decide, ?_⟩
    obtain ⟨k1, rfl, h1, w1, x1, y1⟩ := step2 ht hw h hi hj ex ey u ni
    obtain ⟨k2, rfl, h2, w2, x2, y2⟩ := step2 ht w1 h1 hj hi y1 x1 v (by omega)
    obtain ⟨k3, rfl, h3, w3, x3, y3⟩ := step2 ht w2 h2 hi hj y2 x2 u (by omega)
    obtain ⟨k4, rfl, h4, w4, x4, y4⟩ := step2 ht w3 h3 hj hi y3 x3 v (by omega)
    obtain ⟨k5, rfl, h5, w5, x5, y5⟩ := step2 ht w4 h4 hi hj y4 x4 u (by omega)
    obtain ⟨k6, rfl, h6, w6, x6, y6⟩ := step2 ht w5 h5 hj hi y5 x5 v (by omega)
    exact .succ (.succ (.succ (.succ (.succ (.succ (.zero h6))))))
  · rw [e]
    refine ⟨by decide, ?_⟩
    obtain ⟨k1, rfl, h1, w1, x1, y1⟩ := step2 ht hw h hi hj ex ey u ni
    obtain ⟨k2, rfl, h2, w2, x2, y2⟩ := step2 ht w1 h1 hj hi y1 x1 v (by omega)
    obtain ⟨k3, rfl, h3, w3, x3, y3⟩ := step2 ht w2 h2 hi hj y2 x2 u (by omega)
    obtain ⟨k4, rfl, h4, w4, x4, y4⟩ := step2 ht w3 h3 hj hi y3 x3 v (by omega)
    obtain ⟨k5, rfl, h5, w5, x5, y5⟩ := step2 ht w4 h4 hi hj y4 x4 u (by omega)
    obtain ⟨k6, rfl, h6, w6, x6, y6⟩ := step2 ht w5 h5 hj hi y5 x5 v (by omega)
    exact .succ (.succ (.succ (.succ (.succ (.succ (.zero h6))))))
  · exact (no_free ht hi hj u v k hw h (by rw [ex, ey]; omega)).elim
theorem row_alt {T : Mat} (ht : Tab T) {w : List Int} (hw : Wd T.length w) {i j : Nat} (hi : i < T.length) (hj : j < T.length) (ne : i ≠ j) (h : 0 < at2 T i j) :
    row T (w ++ alt ((i : Int) + 1) ((j : Int) + 1) (at2 T i j).toNat) = row T (w ++ alt ((j : Int) + 1) ((i : Int) + 1) (at2 T i j).toNat) := by
  have q := pl_alt ht (r := row T w) (row_length T w) hi hj ne h
  unfold pl at q
  unfold row at q ⊢
  rw [List.foldl_append, List.foldl_append]
  exact q
end BW
namespace BW
open PySem L2 DL
def un (T : Mat) : Nat → List Int → List Int
  | 0, _ => []
  | n + 1, r => match (fall r).getLast? with
    | none => []
    | some a => a :: un T n (press T r (ix a))
def sp__law_row : DSp := fun ds k R => ∃ T w, ds = [lM T, tI w] ∧ Tab T ∧ Wd T.length w ∧ R (tI (row T w)) k
abbrev t__law_row : DS := (dSeq (dSet 2 (dOp oMul (dTup (dCons (dC (.int 1)) dNil)) (dLenN 0)))
  (dSeq (dFor (iTp (dVar 1)) (dgN 3) (dSet 2 (dCall sp__law_press (dCons (dVar 0) (dCons (dVar 2) (dCons (dVar 3) dNil))))))
  (dRet (dVar 2))))
def sp__law_below : DSp := fun ds k R => ∃ r, ds = [tI r] ∧ r.length ≤ 6 ∧ R (lI (fall r)) k
abbrev t__law_below : DS := (dRet (dFr (dLc (iR1 (dLenN 0)) (dgN 1) (dTB (dOp oLt (dIxN 0 (dVar 1)) (dC (.int 0)))) (dOp oAdd (dVar 1) (dC (.int 1))) [1])))
theorem wd_rev {n : Nat} {w : List Int} (h : Wd n w) : Wd n w.reverse := fun a ha => h a (List.mem_reverse.mp ha)
theorem LN.rev {T : Mat} (ht : Tab T) {w : List Int} (hw : Wd T.length w) {k : Nat} (h : LN T w k) : LN T w.reverse k := by
  have := TT.Ln.rev (car_of ht) (lets_of hw) h
  rw [← List.map_reverse] at this
  exact this
theorem mem_fall {r : List Int} {i : Nat} (hi : i < r.length) : ((i : Int) + 1) ∈ fall r ↔ r.getD i 0 < 0 := by
  unfold fall
  rw [List.mem_map]
  constructor
  · rintro ⟨j, hj, e⟩
    obtain ⟨_, h2⟩ := List.mem_filter.mp hj
    have : j = i := by omega
    rw [← this]
    exact of_decide_eq_true h2
  · intro h
    exact ⟨i, List.mem_filter.mpr ⟨List.mem_range.mpr hi, decide_eq_true h⟩, rfl⟩
theorem LN.more {T : Mat} (ht : Tab T) {w : List Int} (hw : Wd T.length w) {k : Nat} (h : LN T w k) {i : Nat} (hi : i < T.length) :
    if ((i : Int) + 1) ∈ fall (row T w) then 1 ≤ k ∧ LN T (w ++ [(i : Int) + 1]) (k - 1) else LN T (w ++ [(i : Int) + 1]) (k + 1) := by
  have em : (w ++ [(i : Int) + 1]).map ix = w.map ix ++ [i] := by rw [List.map_append, List.map_cons, List.map_nil, ix_succ]
  have hr : i < (row T w).length := by rw [row_length]; exact hi
  by_cases c : ((i : Int) + 1) ∈ fall (row T w)
  · rw [if_pos c]
    obtain ⟨j, e, hj, _, _⟩ := h.step ht hw c
    exact ⟨by omega, by rw [e]; exact hj⟩
  · rw [if_neg c]
    have nz := row_nz ht hw hi
    have np : 0 < TT.hv T.length (wt T) (w.map ix) i := by
      rw [← row_hv hw hi]
      have := (not_congr (mem_fall hr)).mp c
      omega
    show TT.Ln T.length (wt T) ((w ++ [(i : Int) + 1]).map ix) (k + 1)
    rw [em]
    exact TT.Ln.up (car_of ht) hi (lets_of hw) h np
theorem LN.ahead {T : Mat} (ht : Tab T) {w : List Int} (hw : Wd T.length w) {k : Nat} (h : LN T w k) {i : Nat} (hi : i < T.length) :
    if ((i : Int) + 1) ∈ fall (row T w.reverse) then 1 ≤ k ∧ LN T (((i : Int) + 1) :: w) (k - 1) else LN T (((i : Int) + 1) :: w) (k + 1) := by
  have m := LN.more ht (wd_rev hw) (h.rev ht hw) hi
  have wr : Wd T.length (w.reverse ++ [(i : Int) + 1]) := wd_app (wd_rev hw) (wd_one hi)
  have er : (w.reverse ++ [(i : Int) + 1]).reverse = ((i : Int) + 1) :: w := by rw [List.reverse_append, List.reverse_reverse]; rfl
  by_cases c : ((i : Int) + 1) ∈ fall (row T w.reverse)
  · rw [if_pos c] at m ⊢
    have := LN.rev ht wr m.2
    rw [er] at this
    exact ⟨m.1, this⟩
  · rw [if_neg c] at m ⊢
    have := LN.rev ht wr m
    rw [er] at this
    exact this
theorem len60 {T : Mat} (ht : Tab T) {w : List Int} (hw : Wd T.length w) {k : Nat} (h : LN T w k) (hk : k ≤ 60) : (wd T 60 (row T w)).1.length = k := (wd_len ht k hw h hk).1
end BW
namespace BW
open PySem L2 DL
def Tn1 (T : Mat) (u v : List Int) : Prop := ∃ (p s : List Int) (i j : Nat), i < T.length ∧ j < T.length ∧ i ≠ j ∧ 0 < at2 T i j ∧ u = p ++ alt ((i : Int) + 1) ((j : Int) + 1) (at2 T i j).toNat ++ s ∧ v = p ++ alt ((j : Int) + 1) ((i : Int) + 1) (at2 T i j).toNat ++ s
inductive Tn (T : Mat) : List Int → List Int → Prop
  | refl {u : List Int} : Tn T u u
  | step {u v w : List Int} : Tn1 T u v → Tn T v w → Tn T u w
theorem Tn.trans {T : Mat} {u v w : List Int} (h : Tn T u v) (g : Tn T v w) : Tn T u w := by
  induction h with
  | refl => exact g
  | step a _ ih => exact .step a (ih g)
theorem Tn1.symm {T : Mat} (ht : Tab T) {u v : List Int} (h : Tn1 T u v) : Tn1 T v u := by
  obtain ⟨p, s, i, j, hi, hj, ne, b, e1, e2⟩ := h
  have sy := ht.sy i j hi hj
  exact ⟨p, s, j, i, hj, hi, fun z => ne z.symm, by rw [← sy]; exact b, by rw [← sy]; exact e2, by rw [← sy]; exact e1⟩
theorem Tn.symm {T : Mat} (ht : Tab T) {u v : List Int} (h : Tn T u v) : Tn T v u := by
  induction h with
  | refl => exact .refl
  | step a _ ih => exact ih.trans (.step (a.symm ht) .refl)
theorem Tn1.app {T : Mat} {u v : List Int} (h : Tn1 T u v) (z : List Int) : Tn1 T (u ++ z) (v ++ z) := by
  obtain ⟨p, s, i, j, hi, hj, ne, b, e1, e2⟩ := h
  exact ⟨p, s ++ z, i, j, hi, hj, ne, b, by rw [e1, List.append_assoc], by rw [e2, List.append_assoc]⟩
theorem Tn.app {T : Mat} {u v : List Int} (h : Tn T u v) (z : List Int) : Tn T (u ++ z) (v ++ z) := by
  induction h with
  | refl => exact .refl
  | step a _ ih => exact .step (a.app z) ih
theorem alt_rev {T : Mat} (ht : Tab T) {i j : Nat} (hi : i < T.length) (hj : j < T.length) (ne : i ≠ j) (h : 0 < at2 T i j) :
    ((alt ((i : Int) + 1) ((j : Int) + 1) (at2 T i j).toNat).reverse = alt ((i : Int) + 1) ((j : Int) + 1) (at2 T i j).toNat ∧ (alt ((j : Int) + 1) ((i : Int) + 1) (at2 T i j).toNat).reverse = alt ((j : Int) + 1) ((i : Int) + 1) (at2 T i j).toNat) ∨
    ((alt ((i : Int) + 1) ((j : Int) + 1) (at2 T i j).toNat).reverse = alt ((j : Int) + 1) ((i : Int) + 1) (at2 T i j).toNat ∧ (alt ((j : Int) + 1) ((i : Int) + 1) (at2 T i j).toNat).reverse = alt ((i : Int) + 1) ((j : Int) + 1) (at2 T i j).toNat) := by
  rcases ht.of i j hi hj ne with e | e | e | e | e
  · rw [e]; exact .inr ⟨rfl, rfl⟩
  · rw [e]; exact .inl ⟨rfl, rfl⟩
  · rw [e]; exact .inr ⟨rfl, rfl⟩
  · rw [e]; exact .inr ⟨rfl, rfl⟩
  · rw [e] at h; exact absurd h (by decide)
theorem turn_rev {T : Mat} (ht : Tab T) {i j : Nat} (hi : i < T.length) (hj : j < T.length) (ne : i ≠ j) (h : 0 < at2 T i j) (z : List Int) :
    Tn1 T (z ++ (alt ((i : Int) + 1) ((j : Int) + 1) (at2 T i j).toNat).reverse) (z ++ (alt ((j : Int) + 1) ((i : Int) + 1) (at2 T i j).toNat).reverse) := by
  rcases alt_rev ht hi hj ne h with ⟨a, b⟩ | ⟨a, b⟩
  · rw [a, b]
    exact ⟨z, [], i, j, hi, hj, ne, h, by rw [List.append_nil], by rw [List.append_nil]⟩
  · rw [a, b]
    exact Tn1.symm ht ⟨z, [], i, j, hi, hj, ne, h, by rw [List.append_nil], by rw [List.append_nil]⟩
theorem LN.cong {T : Mat} {u v : List Int} (hu : Wd T.length u) (hv : Wd T.length v) {k : Nat} (h : LN T u k) (e : row T u = row T v) : LN T v k := TT.Ln.cong h ((row_eq_iff hu hv).mp e)
theorem LN.uniq {T : Mat} {u : List Int} {j k : Nat} (a : LN T u j) (b : LN T u k) : j = k := TT.Ln.uniq a b
abbrev Sh (T : Mat) (w : List Int) : Prop := LN T w w.length
theorem row_app {T : Mat} {u v z : List Int} (e : row T u = row T v) : row T (u ++ z) = row T (v ++ z) := by
  unfold row at e ⊢
  rw [List.foldl_append, List.foldl_append, e]
theorem row_undo {T : Mat} (ht : Tab T) {w : List Int} {i : Nat} (hi : i < T.length) : row T (w ++ [(i : Int) + 1] ++ [(i : Int) + 1]) = row T w := by
  have e1 : wt T i i = -2 := by unfold wt; rw [if_pos rfl]
  refine ext_getD (by rw [row_length, row_length]) fun c hc => ?_
  rw [row_length] at hc
  rw [row_snoc, row_snoc, ix_succ, press_get hc, press_get hc, press_get hi, e1]
  rw [show (row T w).getD i 0 + -2 * (row T w).getD i 0 = -((row T w).getD i 0) by omega, Int.mul_neg]
  omega
theorem row_cancel {T : Mat} (ht : Tab T) {u v : List Int} {i : Nat} (hi : i < T.length) (e : row T (u ++ [(i : Int) + 1]) = row T (v ++ [(i : Int) + 1])) : row T u = row T v := by
  have := row_app (z := [(i : Int) + 1]) e
  rw [row_undo ht hi, row_undo ht hi] at this
  exact this
theorem Sh.last {T : Mat} (ht : Tab T) {w : List Int} {i : Nat} (hi : i < T.length) (hw : Wd T.length w) (h : Sh T (w ++ [(i : Int) + 1])) : (row T (w ++ [(i : Int) + 1])).getD i 0 < 0 ∧ Sh T w := by
  obtain ⟨k, hk, hl⟩ := LN.has hw
  have m := LN.more ht hw hk hi
  have el : (w ++ [(i : Int) + 1]).length = w.length + 1 := by rw [List.length_append]; rfl
  have e1 : wt T i i = -2 := by unfold wt; rw [if_pos rfl]
  by_cases c : ((i : Int) + 1) ∈ fall (row T w)
  · rw [if_pos c] at m
    have := h.uniq m.2
    omega
  · rw [if_neg c] at m
    have := h.uniq m
    have ek : k = w.length := by omega
    have nz := row_nz ht hw hi
    have nn := (not_congr (mem_fall (r := row T w) (i := i) (by rw [row_length]; exact hi))).mp c
    refine ⟨?_, by rw [ek] at hk; exact hk⟩
    rw [row_snoc, ix_succ, press_get hi, e1]
    omega
theorem snoc_cases {T : Mat} {w : List Int} (hw : Wd T.length w) : w = [] ∨ ∃ (v : List Int) (i : Nat), i < T.length ∧ Wd T.length v ∧ w = v ++ [(i : Int) + 1] := by
  rcases List.eq_nil_or_concat w with e | ⟨v, a, e⟩
  · exact .inl e
  · rw [List.concat_eq_append] at e
    subst e
    have ha := hw a (by simp)
    refine .inr ⟨v, (a - 1).toNat, by omega, fun z hz => hw z (by simp [hz]), ?_⟩
    rw [show ((a - 1).toNat : Int) + 1 = a by omega]
theorem alt_pos {T : Mat} (ht : Tab T) {i j : Nat} (hi : i < T.length) (hj : j < T.length) (ne : i ≠ j) (h : 0 < at2 T i j) : ∃ m, (at2 T i j).toNat = m + 1 := ⟨(at2 T i j).toNat - 1, by omega⟩
theorem row_back {T : Mat} (ht : Tab T) : ∀ {l : List Int} {u z : List Int}, Wd T.length l → row T z = row T (u ++ l) → row T (z ++ l.reverse) = row T u
  | [], u, z, _, e => by
    rw [List.append_nil] at e
    rw [List.reverse_nil, List.append_nil]
    exact e
  | a :: l, u, z, hl, e => by
    have ha := hl a List.mem_cons_self
    obtain ⟨i, rfl⟩ : ∃ i : Nat, a = (i : Int) + 1 := ⟨(a - 1).toNat, by omega⟩
    have e2 : row T z = row T ((u ++ [(i : Int) + 1]) ++ l) := by rw [e, List.append_assoc]; rfl
    have ih := row_back ht (fun b hb => hl b (List.mem_cons_of_mem _ hb)) e2
    rw [List.reverse_cons, ← List.append_assoc]
    have := row_app (z := [(i : Int) + 1]) ih
    rw [row_undo ht (by omega)] at this
    exact this
theorem matsumoto {T : Mat} (ht : Tab T) : ∀ (k : Nat) {u v : List Int}, u.length = k → Wd T.length u → Wd T.length v → Sh T u → Sh T v → row T u = row T v → Tn T u v
  | 0, u, v, hk, wu, wv, su, sv, e => by
    obtain rfl : u = [] := List.eq_nil_of_length_eq_zero hk
    have := (su.cong wu wv e).uniq sv
    have hv : v.length = 0 := this.symm
    obtain rfl : v = [] := List.eq_nil_of_length_eq_zero hv
    exact .refl
  | k + 1, u, v, hk, wu, wv, su, sv, e => by
    have lv : v.length = k + 1 := by have := (su.cong wu wv e).uniq sv; omega
    -- words that end alike
    have same : ∀ {u v : List Int} {i : Nat}, i < T.length → Wd T.length u → Wd T.length v → u.length = k → Sh T (u ++ [(i : Int) + 1]) → Sh T (v ++ [(i : Int) + 1]) → row T (u ++ [(i : Int) + 1]) = row T (v ++ [(i : Int) + 1]) → Tn T (u ++ [(i : Int) + 1]) (v ++ [(i : Int) + 1]) := fun hi wu wv hk su sv e =>
      (matsumoto ht k hk wu wv (su.last ht hi wu).2 (sv.last ht hi wv).2 (row_cancel ht hi e)).app _
    rcases snoc_cases wu with rfl | ⟨u', i, hi, wu', rfl⟩
    · cases hk
    rcases snoc_cases wv with rfl | ⟨v', j, hj, wv', rfl⟩
    · cases lv
    have lu' : u'.length = k := by rw [List.length_append] at hk; simp at hk; exact hk
    have lv' : v'.length = k := by rw [List.length_append] at lv; simp at lv; exact lv
    by_cases c : i = j
    · subst c
      exact same hi wu' wv' lu' su sv e
    · have ni := (su.last ht hi wu').1
      have nj := (sv.last ht hj wv').1
      rw [← e] at nj
      obtain ⟨b, dn⟩ := dn_two ht wu su hi hj c ni nj
      obtain ⟨l, el, hl⟩ := dn.end_
      obtain ⟨m, em⟩ := alt_pos ht hi hj c b
      have wa : Wd T.length (alt ((i : Int) + 1) ((j : Int) + 1) (at2 T i j).toNat) := alt_wd ⟨by omega, by omega⟩ ⟨by omega, by omega⟩ _
      have wb : Wd T.length (alt ((j : Int) + 1) ((i : Int) + 1) (at2 T i j).toNat) := alt_wd ⟨by omega, by omega⟩ ⟨by omega, by omega⟩ _
      -- a shortest word of what is left
      obtain ⟨z0, lz0, ez0, rz0⟩ := hl.ex
      obtain ⟨z, wz, ez, rz⟩ : ∃ z, Wd T.length z ∧ z.length = l ∧ row T z = row T (u' ++ [(i : Int) + 1] ++ alt ((i : Int) + 1) ((j : Int) + 1) (at2 T i j).toNat) := by
        refine ⟨z0.map fun (a : Nat) => (a : Int) + 1, fun a ha => ?_, by rw [List.length_map]; exact ez0, ?_⟩
        · obtain ⟨q, hq, rfl⟩ := List.mem_map.mp ha
          have := lz0 q hq
          omega
        · have wz : Wd T.length (z0.map fun (a : Nat) => (a : Int) + 1) := fun a ha => by
            obtain ⟨q, hq, rfl⟩ := List.mem_map.mp ha
            have := lz0 q hq
            omega
          refine (row_eq_iff wz (wd_app wu wa)).mpr ?_
          rw [List.map_map, show (ix ∘ fun (a : Nat) => (a : Int) + 1) = id from funext ix_succ, List.map_id]
          exact rz0
      have rU : row T (z ++ (alt ((i : Int) + 1) ((j : Int) + 1) (at2 T i j).toNat).reverse) = row T (u' ++ [(i : Int) + 1]) := row_back ht wa rz
      have rV : row T (z ++ (alt ((j : Int) + 1) ((i : Int) + 1) (at2 T i j).toNat).reverse) = row T (u' ++ [(i : Int) + 1]) := row_back ht wb (by rw [rz]; exact row_alt ht wu hi hj c b)
      have wU := wd_app wz (wd_rev wa)
      have wV := wd_app wz (wd_rev wb)
      have lU : (z ++ (alt ((i : Int) + 1) ((j : Int) + 1) (at2 T i j).toNat).reverse).length = k + 1 := by rw [List.length_append, List.length_reverse, alt_len]; omega
      have lV : (z ++ (alt ((j : Int) + 1) ((i : Int) + 1) (at2 T i j).toNat).reverse).length = k + 1 := by rw [List.length_append, List.length_reverse, alt_len]; omega
      have sU : Sh T (z ++ (alt ((i : Int) + 1) ((j : Int) + 1) (at2 T i j).toNat).reverse) := by
        have := su.cong wu wU rU.symm
        rw [hk] at this
        show LN T _ _
        rw [lU]
        exact this
      have sV : Sh T (z ++ (alt ((j : Int) + 1) ((i : Int) + 1) (at2 T i j).toNat).reverse) := by
        have := su.cong wu wV rV.symm
        rw [hk] at this
        show LN T _ _
        rw [lV]
        exact this
      have turn := turn_rev ht hi hj c b z
      -- they end with i and with j
      have endU : (z ++ (alt ((i : Int) + 1) ((j : Int) + 1) (at2 T i j).toNat).reverse) = (z ++ (alt ((j : Int) + 1) ((i : Int) + 1) m).reverse) ++ [(i : Int) + 1] := by rw [em, alt_succ, List.reverse_cons, ← List.append_assoc]
      have endV : (z ++ (alt ((j : Int) + 1) ((i : Int) + 1) (at2 T i j).toNat).reverse) = (z ++ (alt ((i : Int) + 1) ((j : Int) + 1) m).reverse) ++ [(j : Int) + 1] := by rw [em, alt_succ, List.reverse_cons, ← List.append_assoc]
      have wU' : Wd T.length (z ++ (alt ((j : Int) + 1) ((i : Int) + 1) m).reverse) := wd_app wz (wd_rev (alt_wd ⟨by omega, by omega⟩ ⟨by omega, by omega⟩ _))
      have wV' : Wd T.length (z ++ (alt ((i : Int) + 1) ((j : Int) + 1) m).reverse) := wd_app wz (wd_rev (alt_wd ⟨by omega, by omega⟩ ⟨by omega, by omega⟩ _))
      have lU' : (z ++ (alt ((j : Int) + 1) ((i : Int) + 1) m).reverse).length = k := by rw [List.length_append, List.length_reverse, alt_len]; rw [em] at el; omega
      have lV' : (z ++ (alt ((i : Int) + 1) ((j : Int) + 1) m).reverse).length = k := by rw [List.length_append, List.length_reverse, alt_len]; rw [em] at el; omega
      rw [endU] at sU rU turn
      rw [endV] at sV rV turn
      have one : Tn T (u' ++ [(i : Int) + 1]) ((z ++ (alt ((j : Int) + 1) ((i : Int) + 1) m).reverse) ++ [(i : Int) + 1]) := same hi wu' wU' lu' su sU rU.symm
      have two : Tn T ((z ++ (alt ((i : Int) + 1) ((j : Int) + 1) m).reverse) ++ [(j : Int) + 1]) (v' ++ [(j : Int) + 1]) := same hj wV' wv' lV' sV sv (rV.trans e)
      exact one.trans (.step turn two)
end BW
namespace BW
open PySem L2 DL
def Ou1 (u v : List Int) : Prop := ∃ (p s : List Int) (a : Int), u = p ++ [a, a] ++ s ∧ v = p ++ s
inductive Led (T : Mat) : List Int → List Int → Prop
  | refl {u : List Int} : Led T u u
  | turn {u v w : List Int} : Tn1 T u v → Led T v w → Led T u w
  | out {u v w : List Int} : Ou1 u v → Led T v w → Led T u w
theorem Led.trans {T : Mat} {u v w : List Int} (h : Led T u v) (g : Led T v w) : Led T u w := by
  induction h with
  | refl => exact g
  | turn a _ ih => exact .turn a (ih g)
  | out a _ ih => exact .out a (ih g)
theorem Tn.led {T : Mat} {u v : List Int} (h : Tn T u v) : Led T u v := by
  induction h with
  | refl => exact .refl
  | step a _ ih => exact .turn a ih
theorem Led.app {T : Mat} {u v : List Int} (h : Led T u v) (z : List Int) : Led T (u ++ z) (v ++ z) := by
  induction h with
  | refl => exact .refl
  | turn a _ ih => exact .turn (a.app z) ih
  | out a _ ih =>
    obtain ⟨p, s, a, e1, e2⟩ := a
    exact .out ⟨p, s ++ z, a, by rw [e1, List.append_assoc], by rw [e2, List.append_assoc]⟩ ih
end BW
namespace BW
open PySem L2 DL
theorem r__law_row (X : List Addr) (ds : List D) (k : Nat) (R : D → Nat → Prop) (h : sp__law_row ds k R) : t__law_row (En R) (St0 false 4 ds X k) := by
  obtain ⟨T, w, rfl, ht, hw, h⟩ := h
  have lt : (T.map lI).length = T.length := List.length_map ..
  have hT := ht.hi
  have lo := ht.lo
  refine ⟨by decide, _, rfl, by simp, by rw [lt]; omega, by rw [lt]; omega, by decide, ?_⟩
  have eo : (List.replicate (((T.map lI).length : Nat) : Int).toNat [D.int 1]).flatten = (one T).map .int := by rw [Int.toNat_natCast, lt]; exact rep_one _
  rw [eo]
  refine ⟨_, rfl, _, rfl, fun i s' => ∃ x r, s' = ⟨X, [.dat (lM T), .dat (tI w), .dat (tI r), x], k⟩ ∧ r.length = T.length ∧ pl T r (w.drop i) = row T w, ⟨_, _, rfl, one_len T, rfl⟩, ?_, ?_⟩
  · rintro i d s' hd ⟨x, r, rfl, hr, e⟩
    rw [List.getElem?_map] at hd
    obtain ⟨a, ha, rfl⟩ := Option.map_eq_some_iff.mp hd
    have b := hw a (List.mem_of_getElem? ha)
    obtain ⟨hi, e2⟩ := List.getElem?_eq_some_iff.mp ha
    rw [List.drop_eq_getElem_cons hi, e2] at e
    refine ⟨_, rfl, _, rfl, _, rfl, T, r, a, rfl, ht, hr, b.1, b.2, ?_⟩
    exact ⟨_, _, rfl, press_length _ _ _, e⟩
  · rintro s' ⟨x, r, rfl, hr, e⟩ X'
    rw [List.length_map, List.drop_length] at e
    have e : r = row T w := e
    subst e
    exact ⟨_, rfl, h⟩
theorem fall_filter (r : List Int) (n : Nat) : ((List.range (n + 1)).filter fun i => decide (r.getD i 0 < 0)) = ((List.range n).filter fun i => decide (r.getD i 0 < 0)) ++ if r.getD n 0 < 0 then [n] else [] := by
  rw [List.range_succ, List.filter_append]
  congr 1
  rw [List.filter_cons]
  by_cases c : r.getD n 0 < 0
  · rw [if_pos c, decide_eq_true c]; rfl
  · rw [if_neg c, decide_eq_false c]; rfl
theorem r__law_below (X : List Addr) (ds : List D) (k : Nat) (R : D → Nat → Prop) (h : sp__law_below ds k R) : t__law_below (En R) (St0 false 2 ds X k) := by
  obtain ⟨r, rfl, hr, h⟩ := h
  have lr : (r.map D.int).length = r.length := List.length_map ..
  intro X
  refine ⟨_, rfl, _, rfl, by rw [lr]; omega, by rw [lr]; omega, ?_⟩
  rw [Int.toNat_natCast, lr]
  refine ⟨by rw [rngD_len]; exact Nat.le_trans hr (by decide), fun p hp => ⟨fun j acc k' => k' = k ∧ acc = (((List.range j).filter fun i => decide (r.getD i 0 < 0)).map fun (i : Nat) => (i : Int) + 1).map D.int, ⟨rfl, rfl⟩, ?_, ?_⟩⟩
  · rintro j d acc k' hd ⟨rfl, rfl⟩ _
    obtain ⟨hj, rfl⟩ := rngD_at hd
    refine ⟨_, rfl, _, rfl, _, .int (r.getD j 0), rfl, by rw [show (0 + (j : Int)) = (j : Int) by omega]; exact atM 0 hj, _, rfl, ?_⟩
    refine iteD (fun c => ?_) fun c => ?_
    · refine ⟨_, rfl, rfl, ?_⟩
      show _ = (((List.range (j + 1)).filter fun i => decide (r.getD i 0 < 0)).map fun (i : Nat) => (i : Int) + 1).map D.int
      rw [fall_filter, if_pos c, List.map_append, List.map_append, show (0 + (j : Int)) = (j : Int) by omega]
      rfl
    · refine ⟨rfl, ?_⟩
      show _ = (((List.range (j + 1)).filter fun i => decide (r.getD i 0 < 0)).map fun (i : Nat) => (i : Int) + 1).map D.int
      rw [fall_filter, if_neg c, List.append_nil]
  · rintro acc k' ⟨rfl, rfl⟩ _
    rw [rngD_len]
    exact h
theorem atI_last {α : Type} {xs : List α} {a : α} (h : xs.getLast? = some a) : atI xs (-1) = some a := by
  have hl : 0 < xs.length := by
    cases xs with
    | nil => cases h
    | cons x r => simp
  rw [List.getLast?_eq_getElem?] at h
  unfold atI ixN
  rw [if_neg (by omega), if_pos (by omega)]
  show xs[((xs.length : Int) + -1).toNat]? = some a
  rw [show ((xs.length : Int) + -1).toNat = xs.length - 1 by omega]
  exact h
end BW
namespace BW
open PySem L2 DL
def lw (T : Mat) (w : List Int) : List Int := (wd T 60 (row T w.reverse)).1
def sp__law_least : DSp := fun ds k R => ∃ T w, ds = [lM T, tI w] ∧ Tab T ∧ Wd T.length w ∧ w.length ≤ 60 ∧ R (tI (lw T w)) k
abbrev t__law_least : DS := (dSeq (dPar2 2 3 (dxO (dLs dNil) (dxD (dCall sp__law_row (dCons (dVar 0) (dCons (dRev (dVar 1)) dNil))) dxN)))
  (dSeq (dWhile (dTB (dOp oNe (dCall sp__law_below (dCons (dVar 3) dNil)) (dFr (dLs dNil)))) (dSeq (dApp 2 (dOp oIx (dCall sp__law_below (dCons (dVar 3) dNil)) (dC (.int 0))))
  (dSet 3 (dCall sp__law_press (dCons (dVar 0) (dCons (dVar 3) (dCons (dIxN 2 (dC (.int (-1)))) dNil)))))))
  (dRet (dTupN 2))))
def shown (T : Mat) (w : List Int) : List D := [tI (row T w), .int (wd T 60 (row T w)).1.length, tI (fall (row T w.reverse)), tI (fall (row T w)), tI (lw T w)]
theorem wd_path {T : Mat} (ht : Tab T) : ∀ (f : Nat) {w : List Int}, Wd T.length w → Wd T.length (wd T f (row T w)).1 ∧ (wd T f (row T w)).2 = row T (w ++ (wd T f (row T w)).1)
  | 0, w, hw => ⟨fun a ha => (nomatch ha), by rw [show (wd T 0 (row T w)).1 = [] from rfl, List.append_nil]; rfl⟩
  | f + 1, w, hw => by
    cases e : fall (row T w) with
    | nil =>
      rw [wd_nil e]
      exact ⟨fun a ha => (nomatch ha), by rw [List.append_nil]⟩
    | cons a q =>
      obtain ⟨i, ea, hi, _⟩ := fall_mem (by rw [e]; exact List.mem_cons_self : a ∈ fall (row T w))
      rw [row_length] at hi
      subst ea
      have h1 : Wd T.length (w ++ [(i : Int) + 1]) := wd_app hw (wd_one hi)
      have h3 : press T (row T w) (ix ((i : Int) + 1)) = row T (w ++ [(i : Int) + 1]) := row_snoc.symm
      rw [wd_cons e, h3]
      obtain ⟨i1, i2⟩ := wd_path ht f h1
      refine ⟨fun z hz => ?_, ?_⟩
      · rcases List.mem_cons.mp hz with rfl | hz
        · exact ⟨by omega, by omega⟩
        · exact i1 z hz
      · show (wd T f (row T (w ++ [(i : Int) + 1]))).2 = _
        rw [i2, List.append_assoc]
        rfl
theorem row_rev {T : Mat} (ht : Tab T) {u v : List Int} (hu : Wd T.length u) (hv : Wd T.length v) (e : row T u = row T v) : row T u.reverse = row T v.reverse := by
  refine (row_eq_iff (wd_rev hu) (wd_rev hv)).mpr ?_
  rw [List.map_reverse, List.map_reverse]
  exact TT.Rw.rev (car_of ht) (lets_of hu) (lets_of hv) ((row_eq_iff hu hv).mp e)
theorem wd_back {T : Mat} (ht : Tab T) {w : List Int} (hw : Wd T.length w) (hl : w.length ≤ 60) : (wd T 60 (row T w)).2 = one T ∧ row T (wd T 60 (row T w)).1 = row T w.reverse := by
  obtain ⟨n, hn, hn2⟩ := LN.has hw
  obtain ⟨m1, m2⟩ := wd_path ht 60 hw
  have e1 := (wd_len ht n hw hn (by omega : n ≤ 60)).2
  refine ⟨e1, ?_⟩
  rw [e1] at m2
  have b := row_back ht (u := []) (z := w ++ (wd T 60 (row T w)).1) (l := []) (fun a ha => nomatch ha) (by rw [List.append_nil]; exact m2.symm)
  have c : row T ([] : List Int) = row T (w ++ (wd T 60 (row T w)).1) := m2
  -- w = the letters gone back
  have d := row_back ht (u := w) (z := []) m1 c
  rw [List.nil_append] at d
  have e := row_rev ht (wd_rev m1) hw d
  rw [List.reverse_reverse] at e
  exact e
theorem LN.par {T : Mat} (ht : Tab T) : ∀ (n : Nat) {w : List Int} {k : Nat}, w.length = n → Wd T.length w → LN T w k → k % 2 = n % 2
  | 0, w, k, hl, hw, h => by
    obtain ⟨j, hj, hj2⟩ := LN.has hw
    have := LN.uniq h hj
    omega
  | n + 1, w, k, hl, hw, h => by
    rcases snoc_cases hw with rfl | ⟨v, i, hi, wv, rfl⟩
    · cases hl
    · rw [List.length_append, List.length_singleton] at hl
      obtain ⟨j, hj, hj2⟩ := LN.has wv
      have ih := LN.par ht n (by omega : v.length = n) wv hj
      have m := LN.more ht wv hj hi
      by_cases c : ((i : Int) + 1) ∈ fall (row T v)
      · rw [if_pos c] at m
        have := LN.uniq h m.2
        omega
      · rw [if_neg c] at m
        have := LN.uniq h m
        omega
theorem mv_row {T : Mat} (ht : Tab T) {w v : List Int} {e : Deed} (hw : Wd T.length w) (he : e.fits T.length w.length) (h : mv T w e = some v) : row T v = row T w := by
  cases e with
  | inn k a =>
    have h : (w.take k ++ [a, a]) ++ w.drop k = v := Option.some.inj h
    subst h
    obtain ⟨i, rfl⟩ : ∃ i : Nat, a = (i : Int) + 1 := ⟨(a - 1).toNat, by have := he.2; omega⟩
    have hi : i < T.length := by have := he.2; omega
    have e1 := row_app (z := w.drop k) (row_undo ht (w := w.take k) hi)
    rw [List.take_append_drop] at e1
    rw [← e1, List.append_assoc (w.take k) [(i : Int) + 1] [(i : Int) + 1]]
    rfl
  | out k =>
    rw [mv_out] at h
    split at h
    · rename_i c
      cases h
      obtain ⟨c1, c2⟩ := c
      have hk : k < w.length := by omega
      have ma := hw (w.getD k 0) (List.mem_of_getElem? (getD_get (d := 0) hk))
      obtain ⟨i, ei⟩ : ∃ i : Nat, w.getD k 0 = (i : Int) + 1 := ⟨(w.getD k 0 - 1).toNat, by omega⟩
      have hi : i < T.length := by omega
      have e1 := row_app (z := w.drop (k + 2)) (row_undo ht (w := w.take k) hi)
      rw [← e1]
      congr 1
      have d1 : w.drop k = w.getD k 0 :: w.drop (k + 1) := by
        rw [List.drop_eq_getElem_cons hk]
        congr 1
        rw [List.getD_eq_getElem?_getD, List.getElem?_eq_getElem hk]; rfl
      have d2 : w.drop (k + 1) = w.getD (k + 1) 0 :: w.drop (k + 2) := by
        rw [List.drop_eq_getElem_cons c1]
        congr 1
        rw [List.getD_eq_getElem?_getD, List.getElem?_eq_getElem c1]; rfl
      rw [List.append_assoc, List.append_assoc]
      conv => rhs; rw [← List.take_append_drop k w, d1, d2, ← c2, ei]
      rfl
    · cases h
  | turn k =>
    rw [mv_turn] at h
    split at h
    · rename_i c
      split at h
      · rename_i c2
        cases h
        obtain ⟨c1, cn⟩ := c
        obtain ⟨c3, c4⟩ := c2
        have hk : k < w.length := by omega
        have ma := hw (w.getD k 0) (List.mem_of_getElem? (getD_get (d := 0) hk))
        have mb := hw (w.getD (k + 1) 0) (List.mem_of_getElem? (getD_get (d := 0) c1))
        obtain ⟨i, ei⟩ : ∃ i : Nat, w.getD k 0 = (i : Int) + 1 := ⟨(w.getD k 0 - 1).toNat, by omega⟩
        obtain ⟨j, ej⟩ : ∃ j : Nat, w.getD (k + 1) 0 = (j : Int) + 1 := ⟨(w.getD (k + 1) 0 - 1).toNat, by omega⟩
        have hi : i < T.length := by omega
        have hj : j < T.length := by omega
        rw [ei, ej, ix_succ, ix_succ] at c3 c4 ⊢
        have ne : i ≠ j := fun z => cn (by rw [ei, ej, z])
        have hp : 0 < at2 T i j := by omega
        have e1 := row_app (z := w.drop (k + (at2 T i j).toNat)) (row_alt ht (w := w.take k) (fun z hz => hw z (List.mem_of_mem_take hz)) hi hj ne hp)
        rw [← e1]
        congr 1
        rw [← c4, List.append_assoc]
        conv => rhs; rw [← List.take_append_drop k w]
        congr 1
        rw [← List.drop_drop, List.take_append_drop]
      · cases h
    · cases h
end BW
namespace BW
open PySem L2 DL
theorem r__law_least (X : List Addr) (ds : List D) (k : Nat) (R : D → Nat → Prop) (h : sp__law_least ds k R) : t__law_least (En R) (St0 false 4 ds X k) := by
  obtain ⟨T, w, rfl, ht, hw, hl, h⟩ := h
  have hT := ht.hi
  obtain ⟨n0, hn0, hn1⟩ := LN.has (wd_rev hw)
  rw [List.length_reverse] at hn1
  refine ⟨by decide, fun p hp => ⟨_, rfl, _, rfl, T, w.reverse, by rw [← List.map_reverse], ht, wd_rev hw, ?_⟩⟩
  refine ⟨fun m s' => ∃ acc v : List Int, s' = ⟨p :: X, [.dat (lM T), .dat (tI w), .own p (acc.map .int), .dat (tI (row T v))], k⟩ ∧ Wd T.length v ∧ LN T v m ∧ m + acc.length ≤ 60 ∧ acc ++ (wd T (60 - acc.length) (row T v)).1 = lw T w, ⟨n0, [], w.reverse, rfl, wd_rev hw, hn0, by show n0 + 0 ≤ 60; omega, rfl⟩, ?_⟩
  rintro m s' ⟨acc, v, rfl, wv, lv, hm, e⟩
  refine ⟨_, rfl, row T v, rfl, by rw [row_length]; omega, by decide, ?_⟩
  refine ⟨okE_lstI _, rfl, _, rfl, ?_⟩
  rw [show PyData.eqv (lI (fall (row T v))).py (D.lst []).py = decide (fall (row T v) = []) from eqv_lstI (fall (row T v)) []]
  cases hf : fall (row T v) with
  | nil =>
    rw [decide_eq_true rfl]
    refine iteF fun X' => ?_
    refine ⟨_, rfl, ?_⟩
    rw [wd_nil hf, List.append_nil] at e
    rw [e]
    exact h
  | cons a q =>
    rw [decide_eq_false (by intro z; cases z)]
    obtain ⟨i, rfl, hi, _⟩ := fall_mem (by rw [hf]; exact List.mem_cons_self : a ∈ fall (row T v))
    rw [row_length] at hi
    obtain ⟨j, rfl, h1, h2, h3⟩ := lv.step ht wv (a := (i : Int) + 1) (by rw [hf]; exact List.mem_cons_self)
    have at2 : atI ((acc ++ [(i : Int) + 1]).map D.int) (-1) = some (.int ((i : Int) + 1)) := atI_last (by rw [List.getLast?_map, List.getLast?_append]; rfl)
    have ap : (acc.map D.int) ++ [.int ((i : Int) + 1)] = (acc ++ [(i : Int) + 1]).map D.int := by rw [List.map_append]; rfl
    refine iteT ⟨p, _, rfl, _, rfl, row T v, rfl, by rw [row_length]; omega, _, .int ((i : Int) + 1), rfl, by rw [hf]; exact atI_nat (j := 0) rfl, by rw [List.length_map]; exact Nat.lt_of_le_of_lt (by omega : acc.length ≤ 60) (by decide), ?_⟩
    rw [ap]
    refine ⟨_, rfl, _, rfl, _, rfl, _, _, rfl, at2, T, row T v, (i : Int) + 1, rfl, ht, row_length _ _, by omega, by omega, ?_⟩
    rw [h3]
    refine ⟨j, by omega, acc ++ [(i : Int) + 1], v ++ [(i : Int) + 1], rfl, h2, h1, by rw [List.length_append, List.length_singleton]; omega, ?_⟩
    obtain ⟨g, eg⟩ : ∃ g, 60 - acc.length = g + 1 := ⟨60 - acc.length - 1, by omega⟩
    rw [eg, wd_cons hf, h3] at e
    rw [← e, List.append_assoc, List.length_append, List.length_singleton, show 60 - (acc.length + 1) = g by omega]
    rfl
end BW
set_option maxHeartbeats 1000000
namespace L2G
open PySem PySem.Spec PyProof.Rows L2 LamX
theorem lawGT {P : Program} {w : World} {K : PySem.W.Frag} {mg mb : Str → Option Value} {k : Nat} {fa a : Addr} {cs : List (Addr × Addr)} {fd : FuncData} {x : Str} {sp : Sp} {s₁ : Shared} {vs : List Value} {ns : List Int}
    (kin : K.In s₁.heap) (gns : s₁.heap.Ns mainGlobals mg) (bns : s₁.heap.Ns builtinsNs mb) (bbo : ∀ x : Str, x ≠ "__name__" → mb x = bootBuiltins x) (nlim : s₁.heap.NoLimit) (gens : s₁.gens = #[])
    (tabs : ∀ p ∈ cs, s₁.heap.get? p.2 = some { cls := .none, data := .fields #[] }) (offT : ∀ p ∈ cs, K.lookup p.2 = none) (heads : ∀ p ∈ cs, PySem.W.CodeHd s₁.heap p.1 p.2)
    (bmod : ∃ (bm : Addr) (ob : Obj), mg "__builtins__" = some (.ref bm) ∧ bm ≠ builtinsNs ∧ s₁.heap.get? bm = some ob ∧ ob.cls = .type "module" ∧ ob.dict = some builtinsNs ∧ ob.data = .plain)
    (ob : s₁.heap.get? a = some { cls := .type "list", data := .seq vs.toArray }) (iar : IntsAre vs ns) (small : ns.length ≤ sizeLine) (room : Room k callerA)
    (F : ∀ base : Heap, K.In base → base.Ns mainGlobals mg → (∀ p ∈ cs, TabB base mg p.1 p.2) → FnG P w K mg base k fa fd [x] sp) (bind : ∀ (s : Shared) (u : Value), BindsTo s fd ⟨[u], []⟩ [(x, u)])
    (prom : ∀ H : Hp, (∀ p ∈ cs, H p.2 = some (.tbl #[])) → SqL K H a (ns.map V.int) → sp [.ref a] H (fun v _ => v = .bl true) fun _ _ _ => False) :
    codeAny (model P w) callerA (.call (.ref fa) ⟨[.ref a], []⟩) (fun r s' => r = .ok (.ret (.bool true)) ∧ OldK s₁.heap s'.heap ∧ s'.os = s₁.os ∧ AllBare s'.gens) s₁ := by
  have rel := vals_ints iar
  have same := iar.length
  let ts : List Addr := cs.map (·.2)
  have inTs : ∀ p ∈ cs, p.2 ∈ ts := fun p hp => List.mem_map.mpr ⟨p, hp, rfl⟩
  have tab_at : ∀ b ∈ ts, s₁.heap.get? b = some { cls := .none, data := .fields #[] } ∧ K.lookup b = none ∧ ∃ p ∈ cs, p.2 = b := fun b hb => by
    obtain ⟨p, hp, rfl⟩ := List.mem_map.mp hb
    exact ⟨tabs p hp, offT p hp, p, hp, rfl⟩
  have a_off : a ∉ ts := fun z => by
    have q := (tab_at a z).1
    rw [ob] at q
    cases congrArg (fun o => o.map Obj.data) q
  have main : ∀ H : Hp, (∀ b ∈ ts, H b = some (.tbl #[])) → (∀ b u, H b = some u → b ∈ ts ∨ (b = a ∧ ∃ o ys, u = .frz o (.lst ys))) → SqL K H a (ns.map V.int) → HOk P w H s₁.heap → (H a ≠ none → K.lookup a = none) →
      codeAny (model P w) callerA (.call (.ref fa) ⟨[.ref a], []⟩) (fun r s' => r = .ok (.ret (.bool true)) ∧ OldK s₁.heap s'.heap ∧ s'.os = s₁.os ∧ AllBare s'.gens) s₁ := by
    intro H hTb hOnly sq hk offK
    have tabH : ∀ p ∈ cs, H p.2 = some (.tbl #[]) := fun p hp => hTb _ (inTs p hp)
    -- what is tracked is the script or a table
    have free : ∀ {b : Addr} {o : Obj}, s₁.heap.get? b = some o → (∀ xs n, o.data ≠ .seq xs n) → o.data ≠ .fields #[] → H b = none := fun {b o} z n1 n2 => by
      cases y : H b with
      | none => rfl
      | some u =>
        exfalso
        rcases hOnly b u y with i | ⟨rfl, _⟩
        · rw [(tab_at b i).1] at z
          cases z
          exact n2 rfl
        · rw [ob] at z
          cases z
          exact n1 _ _ rfl
    have down : ∀ {b : Addr} {o : Obj}, s₁.heap.get? b = some o → (∀ xs n, o.data ≠ .seq xs n) → o.data ≠ .fields #[] → (hidT s₁.heap H).get? b = some o := fun {b o} z n1 n2 => hidT_get z (free z n1 n2)
    have ns_down : ∀ {b : Addr} {m : Str → Option Value}, s₁.heap.Ns b m → (hidT s₁.heap H).Ns b m := fun {b m} ⟨o, es, ep, z, d, r⟩ => ⟨o, es, ep, down z (fun xs n i => by rw [d] at i; cases i) (fun i => by rw [d] at i; cases i), d, r⟩
    have kin2 : K.In (hidT s₁.heap H) := fun b o z => by
      refine hidT_get (kin b o z) ?_
      cases y : H b with
      | none => rfl
      | some u =>
        exfalso
        rcases hOnly b u y with i | ⟨rfl, _⟩
        · rw [(tab_at b i).2.1] at z
          cases z
        · rw [offK (by rw [y]; simp)] at z
          cases z
    have md : L2.Mod K mg (hidT s₁.heap H) := by
      obtain ⟨mc, l1, l2⟩ := nlim
      exact ⟨kin2, ns_down gns, ⟨mb, ns_down bns, bbo⟩, mc, ns_down l1, l2⟩
    have tbs : ∀ p ∈ cs, TabB (hidT s₁.heap H) mg p.1 p.2 := by
      intro p hp
      have tp := tabs p hp
      constructor
      · obtain ⟨o, us, file, tf, flags, tg, inF, text, tt, g1, g2, g3, g4, g5, g6, g7, g8, g9, g10⟩ := heads p hp
        refine ⟨o, us, file, tf, flags, tg, inF, text, tt, down g1 (fun xs n i => ?_) (fun i => ?_), g2, g3, g4, g5, g6, g7, g8, g9, g10⟩
        · rw [g3] at i; cases i
        · rw [g3] at i; cases i; simp at g4
      · obtain ⟨bm, om, q1, q2, q3, q4, q5, q6⟩ := bmod
        refine ⟨bm, om, q1, q2, ?_, ?_, down q3 (fun xs n i => ?_) (fun i => ?_), q4, q5, q6⟩
        · rintro rfl
          obtain ⟨o, es, ep, z, d, _⟩ := gns
          rw [z] at q3
          cases q3
          rw [q6] at d
          cases d
        · rintro rfl
          rw [tp] at q3
          cases q3
          cases q6
        · rw [q6] at i; cases i
        · rw [q6] at i; cases i
      · intro z
        obtain ⟨o, es, ep, y, d, _⟩ := gns
        rw [z, tp] at y
        cases y
        cases d
    have env : Env0 P w K mg (hidT s₁.heap H) callerA [] s₁ H := ⟨rfl, md, fun b o z => of_hidT z, Nat.le_of_eq (hidT_size _ _), trivial, fun b z => absurd (show b ∈ ([] : List Addr) from z) (by simp), hk, .of_eq gens⟩
    refine codeAny_mono ((F _ kin2 (ns_down gns) tbs).run callerA [] s₁ H ⟨[.ref a], []⟩ [.ref a] [.ref a] _ _ room rfl env (bind s₁ (.ref a)) (.cons rfl .nil) (prom H tabH sq)) fun out s2 fin => ?_
    cases out with
    | error e => exact (show False from fin).elim
    | ok fl =>
      cases fl with
      | next => exact (show False from fin).elim
      | brk => exact (show False from fin).elim
      | cont => exact (show False from fin).elim
      | ret u =>
        obtain ⟨v, H2, eos, bare, un, hk2, rv, q⟩ := fin
        obtain rfl : v = .bl true := q
        obtain rfl : u = Value.bool true := rv
        have more : ∀ b ∈ ts, ∃ ys : Array Value, s2.heap.get? b = some { cls := .none, data := .fields ys } := fun b hb => by
          obtain ⟨ys, z⟩ := un.tbls b #[] (hTb b hb)
          exact ⟨_, hk2 b _ z⟩
        have rest : ∀ b o, b ∉ ts → s₁.heap.get? b = some o → s2.heap.get? b = some o := fun b o nb z => by
          cases y : H b with
          | none => exact un.keep b o z y (fun i => absurd (show b ∈ ([] : List Addr) from i) (by simp)) (by simp)
          | some t =>
            rcases hOnly b t y with i | ⟨_, o2, ys, rfl⟩
            · exact absurd i nb
            · obtain ⟨g1, _⟩ := hk b _ y
              obtain ⟨g2, _⟩ := hk2 b _ (un.frzs b o2 _ y)
              rw [z] at g1
              cases g1
              exact g2
        refine ⟨rfl, ⟨fun b o z => ?_, fun b o z => ?_⟩, eos, bare⟩
        · by_cases i : b ∈ ts
          · obtain ⟨e1, _, p, hp, rfl⟩ := tab_at b i
            obtain ⟨ys, e2⟩ := more _ i
            rw [e1] at z
            cases z
            exact .inr (.inl ⟨((heads p hp).tab e1).isCodeTable, rfl, #[], ys, rfl, by rw [Array.empty_append]; exact e2⟩)
          · exact .inl (rest b o i z)
        · by_cases i : b ∈ ts
          · obtain ⟨ys, e2⟩ := more b i
            exact ⟨_, e2⟩
          · exact ⟨o, rest b o i z⟩
  cases lk : K.lookup a with
  | some o =>
    have z := kin a o lk
    rw [ob] at z
    cases z
    obtain ⟨H0, at_t, off⟩ : ∃ H0 : Hp, (∀ b ∈ ts, H0 b = some (.tbl #[])) ∧ ∀ b, b ∉ ts → H0 b = none := ⟨fun b => if b ∈ ts then some (.tbl #[]) else none, fun b i => if_pos i, fun b i => if_neg i⟩
    refine main H0 at_t (fun b u z => ?_) (.inr ⟨_, vs.toArray, _, lk, rfl, rfl, rfl, by rw [List.size_toArray, same]; exact small, by simpa using rel⟩) (fun b u z => ?_) fun z => absurd (off a a_off) z
    · by_cases i : b ∈ ts
      · exact .inl i
      · rw [off b i] at z; cases z
    · by_cases i : b ∈ ts
      · rw [at_t b i] at z
        cases z
        exact (tab_at b i).1
      · rw [off b i] at z; cases z
  | none =>
    obtain ⟨H0, at_a, at_t, off⟩ : ∃ H0 : Hp, H0 a = some (.frz { cls := .type "list", data := .seq vs.toArray } (.lst (ns.map V.int))) ∧ (∀ b ∈ ts, H0 b = some (.tbl #[])) ∧ ∀ b, b ≠ a → b ∉ ts → H0 b = none := by
      refine ⟨fun b => if b ∈ ts then some (.tbl #[]) else if b = a then some (.frz { cls := .type "list", data := .seq vs.toArray } (.lst (ns.map V.int))) else none, ?_, fun b i => if_pos i, fun b i j => ?_⟩
      · show (if a ∈ ts then _ else _) = _
        rw [if_neg a_off, if_pos rfl]
      · show (if b ∈ ts then _ else _) = _
        rw [if_neg j, if_neg i]
    refine main H0 at_t (fun b u z => ?_) (.inl (.inr ⟨_, at_a⟩)) (fun b u z => ?_) fun _ => lk
    · by_cases i : b ∈ ts
      · exact .inl i
      · by_cases e : b = a
        · subst e
          rw [at_a] at z
          cases z
          exact .inr ⟨rfl, _, _, rfl⟩
        · rw [off b e i] at z; cases z
    · by_cases i : b ∈ ts
      · rw [at_t b i] at z
        cases z
        exact (tab_at b i).1
      · by_cases e : b = a
        · subst e
          rw [at_a] at z
          cases z
          exact ⟨ob, by rw [List.length_map]; exact small, vs, _, rel, ob⟩
        · rw [off b e i] at z; cases z
theorem walkGT {l : PySem.W.OpenLaw} {n k : Nat} {q : Program} {loose : List Str} {XP : (Str → Option Value) → Heap → Prop} {YP : World → Heap → Prop} {d : DefRec} {x : Str}
    (most : l.most = some n) (le : n ≤ sizeLine) (nodf : d.params.defaults = []) (room : Room k callerA)
    (F : ∀ (w : World) (mg : Str → Option Value) (fa : Addr) (h : Heap), YP w h → h.Ns mainGlobals mg → mg d.name = some (.ref fa) →
      ∃ (K : PySem.W.Frag) (fd : FuncData) (sp : Sp) (cs : List (Addr × Addr)), K.In h ∧ (∀ p ∈ cs, h.get? p.2 = some { cls := .none, data := .fields #[] }) ∧ (∀ p ∈ cs, K.lookup p.2 = none) ∧ (∀ p ∈ cs, PySem.W.CodeHd h p.1 p.2) ∧ (∀ (s : Shared) (u : Value), BindsTo s fd ⟨[u], []⟩ [(x, u)]) ∧
        (∀ (H : Hp) (a : Addr) (ns : List Int), ns.length ≤ n → (∀ p ∈ cs, H p.2 = some (.tbl #[])) → SqL K H a (ns.map V.int) → sp [.ref a] H (fun v _ => v = .bl true) fun _ _ _ => False) ∧
        ∀ base : Heap, K.In base → base.Ns mainGlobals mg → (∀ p ∈ cs, TabB base mg p.1 p.2) → FnG l.prog w K mg base k fa fd [x] sp) :
    PySem.W.WalkO q loose XP YP l.row.toRowW d [] (fun f vs => PySem.call f vs) := by
  refine Att.attach_call most nodf fun w s0 s1 mg mb fa o pm cd doc a vs ns G Y _ _ _ named obj iar len gens => ?_
  obtain ⟨K, fd, sp, cs, kin, e1, e2, e3, bind, prom, ok⟩ := F w mg fa _ Y G.T.g named
  exact lawGT kin G.T.g G.T.b G.T.builtins G.T.nolimit gens e1 e2 e3 G.T.bmain obj iar (Nat.le_trans len le) room ok bind fun H tb sq => prom H a ns len tb sq
end L2G
set_option maxHeartbeats 1000000
namespace DL
open PySem PySem.Spec PyProof.Rows L2 LamX
open PySem.W (Frag)
def LwC (c : C) (T : List (Addr × PySem.Str)) : Prop := (∃ m, c.M = some m ∧ m.T = T ∧ m.kd = none) ∧ NoTs c.H0
end DL
namespace L2G
open PySem PySem.Spec PyProof.Rows L2
theorem okGT {P : Program} {w : World} {K : PySem.W.Frag} {mg : Str → Option Value} {base : Heap} {x qual : Str} {st : Stmt} {p : Str × Option Str} {fd : FuncData} {N ps : List Str} {k : Nat} {sp : Sp} (F : Fun K x qual st (He.fAd K p) fd) (S : FnScope N ps (defScope st)) (ln : ∀ vs H Q E, sp vs H Q E → vs.length = ps.length)
    (bd : ∀ (cdv : Value) (A : Around) (ou : List Env) (s : Shared) (H : Hp) (vs : List V) (Q : VK) (E : XK), cdv = .ref (He.codeOf K p) → Room k (A.deeper (envOfC qual (defScope st) s.heap.objs.size (He.fAd K p) cdv)) → (A.deeper (envOfC qual (defScope st) s.heap.objs.size (He.fAd K p) cdv)).guards = some [] → sp vs H Q E →
      ∃ t, PSs (cxOf CX0 P w K mg base N qual (defScope st) (He.fAd K p) cdv A ou s H E).nox (defBody st) t ∧ t { nx := fun _ H' => Q .non H', rt := Q } (L2.start N vs) H) : FnG P w K mg base (k + 1) (He.fAd K p) fd ps sp := by
  obtain ⟨oc, od, kV, doc, pm, an, cdv, ct, osl, rfl, lk, cdok⟩ := F.ex
  obtain ⟨cc, rfl⟩ := He.codeIn_ref cdok
  have ecc : He.codeOf K p = cc := He.codeOf_eq lk rfl
  refine ⟨ln, fun A ou s H ar us vs Q E room gu en bi rv hs => ?_⟩
  have lv := ln _ _ _ _ hs
  have inK : K.In s.heap := en.mod.kin.keeps fun a u z => (en.bs a u z).1
  have nlim : s.heap.NoLimit := en.mod.nolimit.keeps fun a u z => (en.bs a u z).1
  have kinds : ∀ y ∈ ps.zip us, (defScope st).names.lookup y.1 = some .local ∨ ((defScope st).names.lookup y.1 = some .cell ∧ ((cellsFrom (s.heap.objs.size + 1) (defScope st).names []).lookup y.1).isSome = true) := by
    rintro ⟨nm, vl⟩ hy
    exact (S.par nm (List.of_mem_zip hy).1).imp id fun z => ⟨z, PySem.W.cellsFrom_some _ _ _ (.inl z)⟩
  refine codeAny_call_function room.depth (inK _ _ lk) rfl S.co S.gen rfl (PySem.W.codeRec_of inK cdok) (bi _ _ _ _ ?_)
  refine wpAny_newFunctionEnv_cells S.kind kinds fun env same s1 ic => ?_
  subst same
  refine ⟨nlim.keeps ic.toInCall.keep, codeAny_func ?_⟩
  obtain ⟨t, walk, ends⟩ := bd (.ref cc) A ou s H vs Q E (by rw [ecc]) (room.deeper _) gu hs
  have I0 := inv_start (CX := CX0) (E := E) S room.hd en lv rv ic
  refine wpAny_mono (walk.nox.run [] s1 (L2.start N vs) H _ I0 ends) (fun fl s2 hfl => ?_) fun _ _ z => z
  cases fl with
  | ret u =>
    obtain ⟨v, τ, H2, J, r2, q2⟩ := hfl
    exact ⟨v, H2, J.os, J.bare, J.base, J.hok, r2, q2⟩
  | next =>
    obtain ⟨τ, H2, J, q2⟩ := hfl
    exact ⟨V.non, H2, J.os, J.bare, J.base, J.hok, rfl, q2⟩
  | brk =>
    obtain ⟨_, _, _, q2⟩ := hfl
    exact q2.elim
  | cont =>
    obtain ⟨_, _, _, q2⟩ := hfl
    exact q2.elim
end L2G
set_option maxHeartbeats 1000000
namespace BW
open PySem L2 DL
theorem wd_let {T : Mat} : ∀ (f : Nat) {r : List Int}, r.length = T.length → Wd T.length (wd T f r).1
  | 0, r, _ => fun a ha => (nomatch ha)
  | f + 1, r, hr => by
    cases e : fall r with
    | nil => rw [wd_nil e]; exact fun a ha => (nomatch ha)
    | cons a q =>
      rw [wd_cons e]
      obtain ⟨i, ea, hi, _⟩ := fall_mem (by rw [e]; exact List.mem_cons_self : a ∈ fall r)
      intro z hz
      rcases List.mem_cons.mp hz with rfl | hz
      · omega
      · exact wd_let f (press_length T r (ix a)) z hz
theorem fall_one1 (T : Mat) : fall (one T) = [] := by
  cases e : fall (one T) with
  | nil => rfl
  | cons a q =>
    obtain ⟨i, _, hi, h⟩ := fall_mem (by rw [e]; exact List.mem_cons_self : a ∈ fall (one T))
    unfold one at hi h
    rw [List.length_replicate] at hi
    rw [List.getD_eq_getElem?_getD, List.getElem?_replicate, if_pos hi] at h
    exact absurd h (by decide)
end BW
namespace BW
open PySem L2 DL
open PySem.W (Frag)
theorem tupIs_ok {K : Frag} {v : Value} {ns : List Int} (h : tupIs K v ns = true) : ∃ b, v = .ref b ∧ ∀ H, SqT K H b (ns.map V.int) := by
  cases v with
  | ref b =>
    refine ⟨b, rfl, fun H => ?_⟩
    unfold tupIs at h
    cases q : K.lookup b with
    | none => simp only [q] at h; cases h
    | some o =>
      obtain ⟨oc, od, dt, osl⟩ := o
      simp only [q] at h
      cases oc with
      | type c =>
        cases dt with
        | seq its n =>
          obtain ⟨h1, h2⟩ := Bool.and_eq_true_iff.mp (show (decide (c = "tuple") && (decide (its.size ≤ sizeLine) && He.relAll (ns.map V.int) its.toList)) = true from h)
          obtain ⟨h3, h4⟩ := Bool.and_eq_true_iff.mp h2
          exact .inr ⟨_, its, n, q, congrArg Value.type (of_decide_eq_true h1), rfl, of_decide_eq_true h3, He.relAll_ok h4⟩
        | _ => cases h
      | _ => cases dt <;> cases h
  | _ => cases h
theorem entB_ok {P : Program} {w : World} {K : Frag} : ∀ {es : List DictEntry} {kvs : List (Int × List Int)}, entB K es kvs = true →
    (∀ e ∈ es, ∃ k, (intKind P w).is k e.key = true ∧ e.hash = (intKind P w).hash k) ∧
    ∃ (us : List (Int × Value)) (vs : List (Int × V)), Pairs (intKind P w) es us ∧ us.map (·.1) = kvs.map (·.1) ∧ KV vs us ∧ ∀ H, KvA K H vs (kvs.map fun q => (q.1, tI q.2))
  | [], [], _ => ⟨fun _ h => (nomatch h), [], [], .nil, rfl, .nil, fun _ => .nil⟩
  | [], _ :: _, h => by cases h
  | _ :: _, [], h => by cases h
  | e :: es, (k, ns) :: r, h => by
    obtain ⟨h1, h2⟩ := Bool.and_eq_true_iff.mp (show ((match e.key with | .int j _ => decide (j = k) && decide (e.hash = hashInt k) | _ => false) && (tupIs K e.val ns && entB K es r)) = true from h)
    obtain ⟨h3, h4⟩ := Bool.and_eq_true_iff.mp h2
    obtain ⟨ih1, us, vs, ih2, ih3, ih4, ih5⟩ := entB_ok (P := P) (w := w) h4
    obtain ⟨b, hb, hs⟩ := tupIs_ok h3
    have key : (intKind P w).is k e.key = true ∧ e.hash = (intKind P w).hash k := by
      cases q : e.key with
      | int j t =>
        rw [q] at h1
        obtain ⟨h5, h6⟩ := Bool.and_eq_true_iff.mp (show (decide (j = k) && decide (e.hash = hashInt k)) = true from h1)
        have h5 := of_decide_eq_true h5
        subst h5
        exact ⟨by simp [intKind, Value.isInt], of_decide_eq_true h6⟩
      | _ => rw [q] at h1; cases h1
    refine ⟨fun x hx => ?_, (k, .ref b) :: us, (k, .ref b) :: vs, ?_, by rw [List.map_cons, List.map_cons, ih3], .cons ⟨rfl, rfl⟩ ih4, fun H => .cons (.tup (hs H) (RlA.ints ns)) (ih5 H)⟩
    · rcases List.mem_cons.mp hx with rfl | hx
      · exact ⟨k, key⟩
      · exact ih1 x hx
    · rw [← hb]
      exact .cons key.1 rfl ih2
theorem kdB_ok {P : Program} {w : World} {K : Frag} {mg : PySem.Str → Option Value} {x : PySem.Str} {kvs : List (Int × List Int)} (h : kdB K x kvs = true) (hm : mg x = some (.ref (He.ga K x))) (nd : (kvs.map (·.1)).Nodup) : KdAt P w K mg x (kvs.map fun q => (q.1, tI q.2)) := by
  unfold kdB at h
  cases q : K.lookup (He.ga K x) with
  | none => simp only [q] at h; cases h
  | some o =>
    obtain ⟨oc, od, dt, osl⟩ := o
    simp only [q] at h
    cases oc with
    | type c =>
      cases od with
      | none =>
        cases dt with
        | dict es n =>
          obtain ⟨h1, h2⟩ := Bool.and_eq_true_iff.mp (show (decide (c = "dict") && (osl.isEmpty && (!(He.ga K x == sysModules) && entB K es.toList kvs))) = true from h)
          obtain ⟨h3, h4⟩ := Bool.and_eq_true_iff.mp h2
          obtain ⟨h5, h6⟩ := Bool.and_eq_true_iff.mp h4
          obtain ⟨k1, us, vs, k2, k3, k4, k5⟩ := entB_ok (P := P) (w := w) h6
          have e1 : c = "dict" := of_decide_eq_true h1
          subst e1
          refine ⟨_, us, vs, hm, by simpa using h5, fun hp hK => ⟨_, es, n, hK _ _ q, ⟨rfl, rfl, Array.isEmpty_iff.mp h3⟩, rfl, fun e he => k1 e (by simpa using he), k2, by rw [k3]; exact nd⟩, k4, k5⟩
        | _ => cases h
      | some b => cases dt <;> cases h
    | _ => cases od <;> cases dt <;> cases h
end BW
set_option maxHeartbeats 1000000
namespace BW
open PySem L2 DL
open PySem.W (Frag)
theorem Rep.root {c : C} {s : S} {σ : L2.St} {H : Hp} {ow : List Nat} (r : Rep c s σ H) (h : c.X0 = []) : Rep ⟨c.K, c.M, [], fun _ => none, ow⟩ s σ H := by
  refine ⟨fun a o e => ?_, fun a ha => (nomatch ha), fun a ha => (nomatch ha), r.xm, r.xs, r.m, fun i x e => ?_, r.apart, r.len, tbk_none (fun _ _ z => nomatch z) (fun _ _ h => by rcases h with h | ⟨_, h⟩ <;> cases h), r.xt⟩
  · have := (wo_all e).2.1
    cases this
  · have q := r.slot i x e
    cases x with
    | own p ds =>
      obtain ⟨e', h1, h2, h3, vs, h4, h5⟩ := q
      exact ⟨e', h1, fun z => (nomatch z), rfl, vs, h4, h5⟩
    | no => exact q
    | dat d => exact q
    | mst => exact q
    | kds N Z => exact q
    | scr ns => exact q
end BW
set_option maxHeartbeats 1000000
set_option autoImplicit false
namespace DL
open PySem PySem.Spec PyProof.Rows L2
open PySem.W (Frag)
end DL
set_option maxHeartbeats 1000000
namespace DL
open PySem L2
open PySem.W (Frag)
abbrev ksL (L : List (Addr × List Int × Int)) : List (List Int) := L.map (·.2.1)
abbrev KsT (K : Frag) (H : Hp) (L : List (Addr × List Int × Int)) : Prop := ∀ x ∈ L, SqT K H x.1 (x.2.1.map V.int)
def xsL (L : List (Addr × List Int × Int)) (us : List Value) : List (List Int × Addr × Value) := (L.zip us).map fun y => (y.1.2.1, y.1.1, y.2)
theorem xsL_keys {L : List (Addr × List Int × Int)} {us : List Value} (h : us.length = L.length) : (xsL L us).map (·.1) = ksL L := by
  unfold xsL ksL
  rw [List.map_map]
  have : (L.zip us).map (fun y => y.1) = L := List.map_fst_zip (by omega)
  conv => rhs; rw [← this, List.map_map]
  rfl
theorem xsL_mem {L : List (Addr × List Int × Int)} {us : List Value} {x : List Int × Addr × Value} (h : x ∈ xsL L us) : ∃ (i : Nat) (y : Addr × List Int × Int) (u : Value), L[i]? = some y ∧ us[i]? = some u ∧ x = (y.2.1, y.1, u) := by
  obtain ⟨⟨y, u⟩, hm, rfl⟩ := List.mem_map.mp h
  obtain ⟨i, hi⟩ := List.getElem?_of_mem hm
  rw [List.getElem?_zip_eq_some] at hi
  exact ⟨i, y, u, hi.1, hi.2, rfl⟩
section
variable {X : Cx} {pins : List (Addr × Obj)} {σ : St} {H : Hp} {s : Shared} {p q : Addr} {L : List (Addr × List Int × Int)} {r : List Int}
theorem dic_of (I : Inv X pins σ H s) (e : H p = some (.ext (DiE p L))) (hk : KsT X.K H L) :
    ∃ us : List Value, us.length = L.length ∧ (∀ (i : Nat) (x : Addr × List Int × Int) (u : Value), L[i]? = some x → us[i]? = some u → ∃ t, u = .int x.2.2 t) ∧ s.heap.DictOfH (tupleKind (intKind X.prog X.w)) p (xsL L us) ∧ (p == sysModules) = false ∧ (ksL L).Nodup := by
  obtain ⟨⟨o, es, ep, h1, h2, h3, h4, us, h5, h6, h7, h8⟩, _, _⟩ := (show ObjOk X.prog X.w H s.heap p (.ext (DiE p L)) from I.hok p _ e)
  refine ⟨us, h5, h6, ⟨o, es, ep, h1, h2, h3, ?_, fun x hx => ?_, ?_⟩, h4, h8⟩
  · rw [h7]
    unfold xsL
    rw [List.map_map]
    rfl
  · obtain ⟨i, y, u, e1, e2, rfl⟩ := xsL_mem hx
    exact Inv.isT I (hk y (List.mem_of_getElem? e1))
  · rw [xsL_keys h5]
    exact h8
theorem at_some {us : List Value} (hl : us.length = L.length) (nd : (ksL L).Nodup) {i : Nat} {x : Addr × List Int × Int} (h : L[i]? = some x) : ∃ u, us[i]? = some u ∧ atKey (xsL L us) x.2.1 = some (x.1, u) := by
  obtain ⟨hi, _⟩ := List.getElem?_eq_some_iff.mp h
  obtain ⟨u, hu⟩ : ∃ u, us[i]? = some u := ⟨us[i], by simp [show i < us.length by omega]⟩
  refine ⟨u, hu, atKey_of_get (i := i) (by rw [xsL_keys hl]; exact nd) ?_⟩
  unfold xsL
  rw [List.getElem?_map, (List.getElem?_zip_eq_some (z := (x, u))).mpr ⟨h, hu⟩]
  rfl
theorem at_none {us : List Value} (h : r ∉ ksL L) : atKey (xsL L us) r = none := by
  refine atKey_none_of_get fun j y e => h ?_
  obtain ⟨i, z, u, e1, _, e3⟩ := xsL_mem (List.mem_of_getElem? e)
  have : r = z.2.1 := congrArg Prod.fst e3
  rw [this]
  exact List.mem_map.mpr ⟨z, List.mem_of_getElem? e1, rfl⟩
def rNinK (K : Frag) : R2 := fun x y H Q => ∃ p q L r, x = .ref q ∧ y = .ref p ∧ H p = some (.ext (DiE p L)) ∧ KsT K H L ∧ SqT K H q (r.map V.int) ∧ Q (.bl (!decide (r ∈ ksL L))) H
theorem op_ninK (hu : X.A.units + 1 < cLine) : OpR X (compareOp .NotIn) (rNinK X.K) := by
  intro pins s σ H x y v u Q I rx ry h
  obtain ⟨p, q, L, r, rfl, rfl, e, hk, hq, h⟩ := h
  cases (show v = Value.ref q from rx)
  cases (show u = Value.ref p from ry)
  obtain ⟨us, hl, _, dd, hd, nd⟩ := dic_of I e hk
  refine PyProof.Rows.wpAny_notIn_heap (tupleKind_room_in1 hu) (Inv.isT I hq) hd dd ?_
  refine ⟨.bl _, H, I.tok _, rfl, ?_⟩
  by_cases z : r ∈ ksL L
  · obtain ⟨i, hi⟩ := List.getElem?_of_mem z
    rw [List.getElem?_map] at hi
    obtain ⟨x, hx, rfl⟩ := Option.map_eq_some_iff.mp hi
    obtain ⟨u, _, e⟩ := at_some (us := us) hl nd hx
    rw [e]
    rw [decide_eq_true z] at h
    exact h
  · rw [at_none z]
    rw [decide_eq_false z] at h
    exact h
def tGetK (K : Frag) (to ti : TE) : TE := fun σ H Q => to σ H fun x H1 => ti σ H1 fun y H2 => ∃ p q L r n, x = .ref p ∧ y = .ref q ∧ H2 p = some (.ext (DiE p L)) ∧ KsT K H2 L ∧ SqT K H2 q (r.map V.int) ∧ (∃ a, (a, r, n) ∈ L) ∧ Q (.int n) H2
theorem pe_getK {o i : Expr} {to ti : TE} {pos : Pos} (hu : X.A.units + 1 < cLine) (ho : PE X o to) (hi : PE X i ti) (hs : NoSl i) : PE X (.Subscript o i pos) (tGetK X.K to ti) := by
  refine ⟨fun pins s σ H Q I h => ?_⟩
  refine subD_of PySem.F.slot_dict_getitem.lookup hs (thn (ho.run pins s σ H _ I h) fun u s1 ⟨x, H1, I1, rx, q1⟩ => thn (hi.run pins s1 σ H1 _ I1 q1) fun iv s2 ⟨y, H2, I2, ry, p, q, L, r, n, ex, ey, e, hk, hq, ⟨a, hm⟩, q2⟩ => ?_)
  subst ex ey
  obtain rfl : u = Value.ref p := rx
  obtain rfl : iv = Value.ref q := ry
  obtain ⟨us, hl, hv, dd, hd, nd⟩ := dic_of I2 e hk
  obtain ⟨i, hi⟩ := List.getElem?_of_mem hm
  obtain ⟨u, hu1, e1⟩ := at_some (us := us) hl nd hi
  obtain ⟨t, rfl⟩ := hv i _ u hi hu1
  refine ⟨dd.typeIs, wpAny_getItem_heap (tupleKind_room_in1 hu) (Inv.isT I2 hq) dd e1 ⟨.int n, H2, I2.tok _, ⟨_, rfl⟩, q2⟩⟩
def addL (L : List (Addr × List Int × Int)) (q : Addr) (r : List Int) (n : Int) : List (Addr × List Int × Int) := if r ∈ ksL L then L else L ++ [(q, r, n)]
theorem die_new {P : Program} {w : World} {h' : Heap} {L : List (Addr × List Int × Int)} {us : List Value} (hl : us.length = L.length) (hv : ∀ (i : Nat) (x : Addr × List Int × Int) (u : Value), L[i]? = some x → us[i]? = some u → ∃ t, u = .int x.2.2 t)
    (hd : (p == sysModules) = false) (dd : h'.DictOfH (tupleKind (intKind P w)) p (xsL L us)) (H' : Hp) : ObjOk P w H' h' p (.ext (DiE p L)) := by
  obtain ⟨o, es, ep, h1, h2, h3, h4, h5, h6⟩ := dd
  rw [xsL_keys hl] at h6
  refine ⟨⟨o, es, ep, h1, h2, h3, hd, us, hl, hv, ?_, h6⟩, ⟨o, h1⟩, fun g1 g2 ⟨o, es, ep, k1, k2, k3, k4, k5⟩ st => ⟨o, es, ep, st o k1, k2, k3, k4, k5⟩⟩
  rw [h4]
  unfold xsL
  rw [List.map_map]
  rfl
theorem stored_ok {us : List Value} {n : Int} {t : Tok} (hl : us.length = L.length) (hv : ∀ (i : Nat) (x : Addr × List Int × Int) (u : Value), L[i]? = some x → us[i]? = some u → ∃ t, u = .int x.2.2 t) (nd : (ksL L).Nodup) (hn : ∀ x ∈ L, x.2.1 = r → x.2.2 = n) :
    ∃ us', storedH (xsL L us) r q (.int n t) = xsL (addL L q r n) us' ∧ us'.length = (addL L q r n).length ∧ ∀ (i : Nat) (x : Addr × List Int × Int) (u : Value), (addL L q r n)[i]? = some x → us'[i]? = some u → ∃ t, u = .int x.2.2 t := by
  unfold addL
  by_cases z : r ∈ ksL L
  · rw [if_pos z]
    obtain ⟨i, hi⟩ := List.getElem?_of_mem z
    rw [List.getElem?_map] at hi
    obtain ⟨x, hx, ex⟩ := Option.map_eq_some_iff.mp hi
    obtain ⟨u, _, e⟩ := at_some (us := us) hl nd hx
    rw [ex] at e
    rw [storedH_old e]
    let f : (Addr × List Int × Int) × Value → Value := fun y => if y.1.2.1 = r then .int n t else y.2
    refine ⟨(L.zip us).map f, ?_, by rw [List.length_map, List.length_zip]; omega, fun j y v h1 h2 => ?_⟩
    · refine List.ext_getElem? fun j => ?_
      unfold xsL
      rw [List.map_map, List.getElem?_map, List.getElem?_map]
      cases e1 : L[j]? with
      | none =>
        have l1 : L.length ≤ j := List.getElem?_eq_none_iff.mp e1
        rw [List.getElem?_eq_none (by rw [List.length_zip]; omega), List.getElem?_eq_none (by rw [List.length_zip]; omega)]
        rfl
      | some y =>
        obtain ⟨l1, _⟩ := List.getElem?_eq_some_iff.mp e1
        obtain ⟨v, e2⟩ : ∃ v, us[j]? = some v := ⟨us[j]'(by omega), by simp [show j < us.length by omega]⟩
        have z1 : (L.zip us)[j]? = some (y, v) := (List.getElem?_zip_eq_some (z := (y, v))).mpr ⟨e1, e2⟩
        have z2 : (L.zip ((L.zip us).map f))[j]? = some (y, f (y, v)) := (List.getElem?_zip_eq_some (z := (y, f (y, v)))).mpr ⟨e1, by rw [List.getElem?_map, z1]; rfl⟩
        rw [z1, z2]
        show some (putAt r (.int n t) (y.2.1, y.1, v)) = some (y.2.1, y.1, if y.2.1 = r then .int n t else v)
        unfold putAt
        by_cases q : y.2.1 = r
        · rw [if_pos q, if_pos q]
        · rw [if_neg q, if_neg q]
    · rw [List.getElem?_map] at h2
      obtain ⟨⟨y', v'⟩, h3, rfl⟩ := Option.map_eq_some_iff.mp h2
      obtain ⟨h4, h5⟩ := List.getElem?_zip_eq_some.mp h3
      have h4 : L[j]? = some y' := h4
      have h5 : us[j]? = some v' := h5
      rw [h1] at h4
      cases h4
      show ∃ t', (if y.2.1 = r then Value.int n t else v') = .int y.2.2 t'
      by_cases q : y.2.1 = r
      · rw [if_pos q, hn y (List.mem_of_getElem? h1) q]
        exact ⟨t, rfl⟩
      · rw [if_neg q]
        exact hv j y v' h1 h5
  · rw [if_neg z, storedH_new (at_none z)]
    refine ⟨us ++ [.int n t], ?_, by rw [List.length_append, List.length_append]; show us.length + 1 = L.length + 1; omega, fun j y v h1 h2 => ?_⟩
    · unfold xsL
      rw [List.zip_append hl.symm, List.map_append]
      rfl
    · by_cases hj : j < L.length
      · rw [List.getElem?_append_left hj] at h1
        rw [List.getElem?_append_left (by omega)] at h2
        exact hv j y v h1 h2
      · have : j = L.length := by
          have := (List.getElem?_eq_some_iff.mp h1).1
          rw [List.length_append] at this
          have : j < L.length + 1 := this
          omega
        subst this
        rw [List.getElem?_append_right (Nat.le_refl _), Nat.sub_self] at h1
        rw [List.getElem?_append_right (by omega), show L.length - us.length = 0 by omega] at h2
        cases h1
        cases h2
        exact ⟨t, rfl⟩
def rSetK (K : Frag) : V → V → V → Hp → (Hp → Prop) → Prop := fun o i v H Q => ∃ p q L r n, o = .ref p ∧ i = .ref q ∧ v = .int n ∧ H p = some (.ext (DiE p L)) ∧ KsT K H L ∧ SqT K H q (r.map V.int) ∧ (∀ x ∈ L, x.2.1 = r → x.2.2 = n) ∧ L.length ≤ 1000000 ∧ Q (upd H p (.ext (DiE p (addL L q r n))))
theorem set_K (hu : X.A.units + 1 < cLine) : PSet X (rSetK X.K) := by
  intro pins s σ H o i v ov iv u Q I ro ri rv h
  obtain ⟨p, q, L, r, n, rfl, rfl, rfl, e, hk, hq, hn, hz, h⟩ := h
  cases (show ov = Value.ref p from ro)
  cases (show iv = Value.ref q from ri)
  obtain ⟨t, rfl⟩ := rv
  obtain ⟨us, hl, hv, dd, hd, nd⟩ := dic_of I e hk
  obtain ⟨us', e1, e2, e3⟩ := stored_ok (q := q) (r := r) (n := n) (t := t) hl hv nd hn
  have lx : (xsL L us).length = L.length := by unfold xsL; rw [List.length_map, List.length_zip]; omega
  refine wpAny_setItem_heap (tupleKind_room_in1 hu) (Inv.isT I hq) dd (fun h' dd' sb => ?_) (by rw [lx]; exact Nat.le_trans hz (by decide))
  rw [e1] at dd'
  have he : ∃ ob, h'.get? p = some ob := let ⟨ob, _, _, ho, _⟩ := dd'; ⟨ob, ho⟩
  exact ⟨_, d_write I (by rw [e]; exact True.intro) sb he (die_new e2 e3 hd dd' _), h⟩
end
end DL
set_option maxHeartbeats 1000000
namespace DL
open PySem L2
open PySem.W (Frag)
abbrev DSpK := (List Int → Int) → List (List Int) → DSp
def spDK (K : Frag) (sp : DSpK) : Sp := fun vs H Q _ => ∃ (m : Mc) (N : List Int → Int) (Z : List (List Int)) (X0 : List Addr) (k : Nat) (ds : List D) (ws : List V) (R : D → Nat → Prop),
  (m.kd = some ⟨K, N, Z⟩ ∧ vs = ws ++ [.ref m.pm]) ∧ Ahd K (some m) X0 H k ws ds ∧ sp N Z ds k R ∧
  ∀ d k', R d k' → ∀ v H', Aft K (some m) X0 H H' k' → Rl K (wo H' (Ml (some m) ++ X0)) v d → Q v H'
structure CalDK (P : Program) (w : World) (K : Frag) (mg : PySem.Str → Option Value) (base : Heap) (k : Nat) (x : PySem.Str) (sp : DSpK) : Prop where
  ex : ∃ f fd ps, FnOk P w K mg base CX0 k f fd ps (spDK K sp) ∧ mg x = some (.ref f) ∧ PySem.W.keepIn K (.ref f) = true ∧ Binds K fd ps []
abbrev dCallK (i : Nat) (sp : DSpK) (t1 t2 : DE) : DE := fun s Q => ∃ N Z, s.sl[i]? = some (.kds N Z) ∧ t1 s fun d k => t2 (s.at k) fun e k2 => sp N Z [d, e] k2 Q
abbrev dCallK0 (sp : DSpK) (t1 t2 : DE) : DE := fun s Q => ∃ (N : List Int → Int) (Z : List (List Int)), Z.length ≤ 100000 ∧ t1 s fun d k => t2 (s.at k) fun e k2 => sp N Z [d, e] 0 fun r _ => Q r k2
def tNewK : TE := fun _ H Q => ∀ p, H p = none → Q (.ref p) (upd H p (.ext (DiE p [])))
section
variable {X : Cx} {pos : Pos}
theorem pe_newK : PE X (.Dict [] [] pos) tNewK := ⟨fun pins s σ H Q I h =>
  wpAny_Dict_empty ⟨.ref s.heap.objs.size, _, I.laid (a := s.heap.objs.size) (o := .ext (DiE s.heap.objs.size [])) (t' := s.toks) (fun _ _ q => Heap.get?_push_of_some _ q) (Nat.le_refl _)
    (die_new (L := []) (us := []) rfl (fun i x u h => by cases h) (beq_eq_false_iff_ne.mpr (Ne.symm (Nat.ne_of_lt I.big))) ⟨_, #[], 0, Heap.get?_push_size _ rfl, ⟨rfl, rfl, rfl⟩, rfl, rfl, fun x hx => (nomatch hx), List.nodup_nil⟩ _), rfl, h _ (I.hok.fresh (Nat.le_refl _))⟩⟩
end
section
variable {X : Cx} {c : C} {k j : Nat} {x : PySem.Str} {sp : DSpK} {p pos dpos : Pos}
theorem pd_callK (hK : c.K = X.K) (F : CalDK X.prog X.w X.K X.mg X.base k x sp) (hr : Room j X.A) (hk : k ≤ j) (i : Nat) {y : PySem.Str} {pn : Pos} {e1 e2 : Expr} {t1 t2 : DE} (h1 : PE X e1 (LE c t1)) (h2 : PE X e2 (LE c t2)) (hN : X.N[i]? = some y := by rfl) (hv : Vis X.env.scope y := by first | exact Or.inl rfl | exact Or.inr (Or.inl rfl) | exact Or.inr (Or.inr rfl)) (hd : (y == ("__debug__" : PySem.Str)) = false := by decide) (hcd : (y == ("__classdict__" : PySem.Str)) = false := by decide)
    (hg : Gl X x := by rfl) (hdb : (x == ("__debug__" : PySem.Str)) = false := by decide) (he : starEach (e1 :: e2 :: [Expr.Name y pn]) X.env = (false, eval e1 X.env) :: starEach (e2 :: [Expr.Name y pn]) X.env := by rfl) (he2 : starEach (e2 :: [Expr.Name y pn]) X.env = (false, eval e2 X.env) :: starEach [Expr.Name y pn] X.env := by rfl) (he3 : starEach [Expr.Name y pn] X.env = (false, eval (Expr.Name y pn) X.env) :: starEach [] X.env := by rfl) (hpl : (backTo pos (starEach (e2 :: [Expr.Name y pn]) X.env)).any (·.1) = false := by rfl) :
    PE X (.Call (.Name x p) (e1 :: e2 :: [Expr.Name y pn]) [] pos) (LE c (dCallK i sp t1 t2)) := by
  obtain ⟨f, fd, ps, G, hm, kp, b⟩ := F.ex
  refine (pe_call G (hr.mono hk) hg hm kp b .nil pass0 (pa_cons h1 (pa_cons h2 (pa_cons (pe_var hN hv hd hcd) pa_nil he3) he2) he) hdb he hpl).weak fun σ H Q ⟨s, R, rp, ⟨N, Z, hs, q⟩, fn⟩ => ?_
  refine ⟨s, _, rp, q, fun d k1 q1 v H1 r1 a1 ev => ⟨s.at k1, _, r1, q1, fun e k2 q2 u H2 r2 a2 eu => ?_⟩⟩
  obtain ⟨m, ⟨hM, hkd⟩, e0⟩ := r2.slot i _ hs
  refine ⟨_, e0, ?_⟩
  refine ⟨m, N, Z, s.X, k2, [d, e], [v, u], _, ⟨by rw [hkd, hK], rfl⟩, ⟨by rw [← hM]; exact r2.xm, r2.xs, by rw [← hM]; exact r2.m, ?_, r2.xt⟩, q2, fun d' k' hR w H' af er => ?_⟩
  · have := RlA.cons (ev.mono a2.sub) (.cons eu .nil)
    rw [← hM, ← hK]
    exact this
  · have af' : Aft c.K c.M s.X H2 H' k' := by
      rw [hM]
      exact ⟨af.sub, af.old, af.m, af.tb⟩
    have z := Rep.afterM (s := s.at k2) r2 af'
    refine fn d' k' hR w H' z.1 ((a1.trans a2).trans z.2) ?_
    rw [← hM, ← hK] at er
    exact er
theorem pd_callK0 (hK : c.K = X.K) (F : CalDK X.prog X.w X.K X.mg X.base k x sp) (hr : Room j X.A) (hk : k ≤ j) {e1 e2 : Expr} {t1 t2 : DE} (h1 : PE X e1 (LE c t1)) (h2 : PE X e2 (LE c t2))
    (hg : Gl X x := by rfl) (hdb : (x == ("__debug__" : PySem.Str)) = false := by decide) (he : starEach (e1 :: e2 :: [Expr.Dict [] [] dpos]) X.env = (false, eval e1 X.env) :: starEach (e2 :: [Expr.Dict [] [] dpos]) X.env := by rfl) (he2 : starEach (e2 :: [Expr.Dict [] [] dpos]) X.env = (false, eval e2 X.env) :: starEach [Expr.Dict [] [] dpos] X.env := by rfl) (he3 : starEach [Expr.Dict [] [] dpos] X.env = (false, eval (Expr.Dict [] [] dpos) X.env) :: starEach [] X.env := by rfl) (hpl : (backTo pos (starEach (e2 :: [Expr.Dict [] [] dpos]) X.env)).any (·.1) = false := by rfl) :
    PE X (.Call (.Name x p) (e1 :: e2 :: [Expr.Dict [] [] dpos]) [] pos) (LE c (dCallK0 sp t1 t2)) := by
  obtain ⟨f, fd, ps, G, hm, kp, b⟩ := F.ex
  refine (pe_call G (hr.mono hk) hg hm kp b .nil pass0 (pa_cons h1 (pa_cons h2 (pa_cons pe_newK pa_nil he3) he2) he) hdb he hpl).weak fun σ H Q ⟨s, R, rp, ⟨N, Z, hz, q⟩, fn⟩ => ?_
  refine ⟨s, _, rp, q, fun d k1 q1 v H1 r1 a1 ev => ⟨s.at k1, _, r1, q1, fun e k2 q2 u H2 r2 a2 eu => ?_⟩⟩
  intro a ha
  have n3 := r2.new (o := .ext (DiE a [])) ha
  have nf := r2.free ha
  have up : Sub (c.hid s.X H2) (wo (upd H2 a (.ext (DiE a []))) (Ml (some ⟨a, a, a, [], some ⟨X.K, N, Z⟩⟩) ++ (Ml c.M ++ s.X))) := fun b o eb => by
    obtain ⟨z1, z2, z3⟩ := wo_all eb
    have nb : b ≠ a := fun z => by rw [z, ha] at z2; cases z2
    refine wo_of (fun z => ?_) (by rw [upd_ne nb]; exact z2) z3
    rcases List.mem_append.mp z with z | z
    · simp [Ml] at z; exact nb z
    · exact z1 z
  refine ⟨⟨a, a, a, [], some ⟨X.K, N, Z⟩⟩, N, Z, Ml c.M ++ s.X, 0, [d, e], [v, u], _, ⟨rfl, rfl⟩, ⟨fun b hb z => ?_, n3.1.allHid, ?_, ?_, n3.1.allTb⟩, q2, fun d' k' hR w H' af er => ?_⟩
  · simp [Ml] at z
    rw [z] at hb
    exact nf hb
  · exact .ofK rfl ⟨[], upd_same, rfl, rfl, fun x hx => (nomatch hx), fun x hx => (nomatch hx), fun x hx => (nomatch hx), List.nodup_nil, hz, fun p hp => (nomatch hp)⟩
  · have := RlA.cons (ev.mono a2.sub) (.cons eu .nil)
    exact (hK ▸ this).mono up
  · have o : ∀ b ∈ Ml c.M ++ s.X, H' b = H2 b := fun b hb => by
      have nb : b ≠ a := fun z => by
        rw [z] at hb
        exact nf hb
      rw [af.old b hb, upd_ne nb]
    have wo2 : Sub (wo H' (Ml (some ⟨a, a, a, [], some ⟨X.K, N, Z⟩⟩) ++ (Ml c.M ++ s.X))) (c.hid s.X H') := wo_more fun b hb => List.mem_append_right _ hb
    have sb : Sub (c.hid s.X H2) (c.hid s.X H') := (up.trans af.sub).trans wo2
    have tb : TbK H2 H' := (TbK.new ha).trans af.tb
    have r4 : Rep c (s.at k2) σ H' := Rep.step (s := s.at k2) (k := k2) r2 sb (fun b hb _ => o b (List.mem_append_right _ hb)) (r2.m.eq (fun b hb _ => o b (List.mem_append_left _ hb)) tb) (r2.tb.trans tb)
    have a4 : AdvE c s.X H2 H' := ⟨sb, fun b hb => o b (List.mem_append_right _ hb)⟩
    exact fn d' k2 hR w H' r4 ((a1.trans a2).trans a4) (hK ▸ Rl.mono wo2 er)
end
@[reducible] def initK (n : Nat) (ds : List D) (N : List Int → Int) (Z : List (List Int)) : List Sl := ds.map .dat ++ (.kds N Z :: List.replicate (n - (ds.length + 1)) .no)
theorem init_repK {K : Frag} {m : Mc} {N : List Int → Int} {Z : List (List Int)} {X0 : List Addr} {ow : List Nat} {Nn : List PySem.Str} {ws : List V} {ds : List D} {H : Hp} {k : Nat} (hk : m.kd = some ⟨K, N, Z⟩)
    (a : Ahd K (some m) X0 H k ws ds) (hl : ws.length + 1 ≤ Nn.length) : Rep ⟨K, some m, X0, H, ow⟩ ⟨X0, initK Nn.length ds N Z, k⟩ (L2.start Nn (ws ++ [.ref m.pm])) H := by
  have len := a.args.len
  refine ⟨Sub.refl _, fun _ _ _ _ => rfl, fun _ h => h, a.xm, a.xs, a.m, fun i x e => ?_, fun i j p q as bs e1 _ _ => ?_, ?_, .refl, a.xt⟩
  · have e : (ds.map Sl.dat ++ (Sl.kds N Z :: List.replicate (Nn.length - (ds.length + 1)) Sl.no))[i]? = some x := e
    by_cases hi : i < ds.length
    · rw [List.getElem?_append_left (by rw [List.length_map]; exact hi), List.getElem?_map] at e
      obtain ⟨d, hd⟩ : ∃ d, ds[i]? = some d := ⟨ds[i], by simp [hi]⟩
      rw [hd] at e
      cases e
      obtain ⟨w, h1, h2⟩ := a.args.getD hd
      exact ⟨w, start_get (by rw [List.getElem?_append_left (by omega)]; exact h1), h2⟩
    · rw [List.getElem?_append_right (by rw [List.length_map]; omega), List.length_map] at e
      cases hj : i - ds.length with
      | zero =>
        rw [hj] at e
        cases e
        have : i = ws.length := by omega
        subst this
        exact ⟨m, ⟨rfl, hk⟩, start_get (by rw [List.getElem?_append_right (Nat.le_refl _), Nat.sub_self]; rfl)⟩
      | succ j =>
        rw [hj] at e
        have e : (List.replicate (Nn.length - (ds.length + 1)) Sl.no)[j]? = some x := e
        rw [List.getElem?_replicate] at e
        split at e
        · cases e; trivial
        · cases e
  · have e1 : (initK Nn.length ds N Z)[i]? = some (.own p as) := e1
    have mem := List.mem_of_getElem? e1
    simp at mem
  · show (initK Nn.length ds N Z).length = (L2.start Nn (ws ++ [.ref m.pm])).length
    unfold initK L2.start
    simp
    omega
section
variable {P : Program} {w : World} {K : Frag} {mg : PySem.Str → Option Value} {base : Heap}
theorem okDK {x qual : PySem.Str} {st : Stmt} {f : Addr} {fd : FuncData} {Nn ps : List PySem.Str} {k : Nat} {sp : DSpK} (F : Fun K x qual st f fd) (Sc : FnScope Nn ps (defScope st)) (ow : List Nat)
    (len : ∀ N Z ds k R, sp N Z ds k R → ds.length + 1 = ps.length)
    (body : ∃ t : DS, (∀ (cdv : Value) (A : Around) (outer : List Env) (s : Shared) (H : Hp) (E : XK) (c : C), c.K = K → c.ow = ow → Room k (A.deeper (PyProof.Rows.envOfC qual (defScope st) s.heap.objs.size f cdv)) →
        PSs (cxOf CX0 P w K mg base Nn qual (defScope st) f cdv A outer s H E).nox (defBody st) (LS c t)) ∧
      ∀ X N Z ds k R, sp N Z ds k R → t { nx := fun s => R .non s.k, rt := R } ⟨X, initK Nn.length ds N Z, k⟩) :
    FnOk P w K mg base CX0 (k + 1) f fd ps (spDK K sp) := by
  obtain ⟨t, hb, hr⟩ := body
  have lens : ∀ vs H Q E, spDK K sp vs H Q E → vs.length = ps.length := fun vs H Q E ⟨m, N, Z, X0, k, ds, ws, R, ⟨_, e⟩, a, h2, h3⟩ => by
    subst e
    rw [List.length_append, a.args.len]
    exact len N Z ds k R h2
  refine F.ok Sc lens fun cdv A outer s H vs Q E room h => ?_
  have hl := lens _ _ _ _ h
  obtain ⟨m, N, Z, X0, k', ds, ws, R, ⟨hkd, e⟩, a, h2, h3⟩ := h
  subst e
  have hpl : ps.length ≤ Nn.length := by have := congrArg List.length Sc.pre; rw [List.length_take] at this; omega
  rw [List.length_append] at hl
  have hl : ws.length + 1 = ps.length := hl
  refine ⟨LS ⟨K, some m, X0, H, ow⟩ t, hb cdv A outer s H E ⟨K, some m, X0, H, ow⟩ rfl rfl room, ⟨X0, initK Nn.length ds N Z, k'⟩, _, init_repK hkd a (by omega), hr X0 N Z ds k' R h2, ?_⟩
  have fin : ∀ d k v H', Fin ⟨K, some m, X0, H, ow⟩ H' k → Rl K (wo H' (Ml (some m) ++ X0)) v d → R d k → Q v H' := fun d k v H' fi e r => h3 d k r v H' ⟨fi.sub, fun b hb => fi.old b hb (a.xm b hb) (a.xs b hb), fi.m, fi.tb⟩ e
  exact ⟨fun s' σ' H' r _ q => fin .non s'.k .non H' r.fin .non q, fun _ _ _ _ _ q => q, fun _ _ _ _ _ q => q, fun d k v H' fi e r => fin d k v H' fi e r⟩
end
end DL
set_option maxHeartbeats 1000000
namespace DL
open PySem L2
open PySem.W (Frag)
def hpN : Nat → Heap
  | 0 => {}
  | n + 1 => (hpN n).push default
theorem hpN_size : ∀ n, (hpN n).objs.size = n
  | 0 => rfl
  | n + 1 => by
    show ((hpN n).push default).objs.size = n + 1
    rw [Heap.size_push, hpN_size n]
theorem heap_at (p : Addr) (o : Obj) (ho : o.isFreed = false) : ∃ h : Heap, h.get? p = some o := by
  refine ⟨(hpN p).push o, ?_⟩
  have := Heap.get?_push_size (hpN p) (o := o) ho
  rw [hpN_size] at this
  exact this
theorem die_code {p : Addr} {L : List (Addr × List Int × Int)} {q : PySem.Str} : HO.ext (DiE p L) ≠ LamX.CodeO p q := fun z => by
  unfold LamX.CodeO at z
  have e := HO.ext.inj z
  obtain ⟨h, hh⟩ := heap_at p { cls := .none, data := .fields #[.none, .str q default] } rfl
  have e2 := congrFun e h
  have : DiE p L h := by
    rw [e2]
    exact ⟨_, _, default, hh, rfl, rfl⟩
  obtain ⟨o, es, ep, h1, h2, h3, _⟩ := this
  rw [hh] at h1
  cases h1
  cases h3
theorem addL_mem {L : List (Addr × List Int × Int)} {q : Addr} {r : List Int} {n : Int} {x : Addr × List Int × Int} (h : x ∈ addL L q r n) : x ∈ L ∨ x = (q, r, n) := by
  unfold addL at h
  split at h
  · exact .inl h
  · rcases List.mem_append.mp h with h | h
    · exact .inl h
    · exact .inr (List.mem_singleton.mp h)
theorem addL_nd {L : List (Addr × List Int × Int)} {q : Addr} {r : List Int} {n : Int} (h : (ksL L).Nodup) : (ksL (addL L q r n)).Nodup := by
  unfold addL
  split
  · exact h
  · rename_i z
    show (List.map (·.2.1) (L ++ [(q, r, n)])).Nodup
    rw [List.map_append]
    exact nd_snoc h z
theorem addL_has {L : List (Addr × List Int × Int)} {q : Addr} {r : List Int} {n : Int} (h : ∀ x ∈ L, x.2.1 = r → x.2.2 = n) : ∃ a, (a, r, n) ∈ addL L q r n := by
  unfold addL
  split
  · rename_i z
    obtain ⟨x, hx, e⟩ := List.mem_map.mp z
    have e : x.2.1 = r := e
    have := h x hx e
    refine ⟨x.1, ?_⟩
    have : x = (x.1, r, n) := by
      obtain ⟨a, b, c⟩ := x
      cases e
      cases this
      rfl
    rw [← this]
    exact hx
  · exact ⟨q, List.mem_append_right _ (List.mem_singleton.mpr rfl)⟩
theorem nd_sub_len : ∀ {l z : List (List Int)}, l.Nodup → (∀ x ∈ l, x ∈ z) → l.length ≤ z.length
  | [], z, _, _ => Nat.zero_le _
  | a :: l, z, nd, h => by
    have ha := h a List.mem_cons_self
    obtain ⟨n1, n2⟩ := List.nodup_cons.mp nd
    have ih := nd_sub_len (z := z.erase a) n2 fun x hx => (List.mem_erase_of_ne fun e => n1 (by rw [← e]; exact hx)).mpr (h x (List.mem_cons_of_mem _ hx))
    rw [List.length_erase_of_mem ha] at ih
    have := List.length_pos_of_mem ha
    show l.length + 1 ≤ _
    omega
theorem KOk.few {m : Mc} {kn : Kn} {H : Hp} {L : List (Addr × List Int × Int)} (o : KOk m kn H L) : L.length ≤ 1000000 := by
  have : (ksL L).length ≤ kn.Z.length := nd_sub_len o.nd fun x hx => by
    obtain ⟨y, hy, rfl⟩ := List.mem_map.mp hx
    exact o.z y hy
  rw [List.length_map] at this
  have := o.lz
  omega
theorem Rep.kset {c : C} {s : S} {σ : L2.St} {H : Hp} {m : Mc} {N : List Int → Int} {Z : List (List Int)} {L : List (Addr × List Int × Int)} {q : Addr} {r : List Int} (rp : Rep c s σ H) (hM : c.M = some m) (hkd : m.kd = some ⟨c.K, N, Z⟩) (o : KOk m ⟨c.K, N, Z⟩ H L) (hq : SqT c.K H q (r.map V.int)) (hz : r ∈ Z) :
    Rep c s σ (upd H m.pm (.ext (DiE m.pm (addL L q r (N r))))) := by
  have tb : TbK H (upd H m.pm (.ext (DiE m.pm (addL L q r (N r))))) := TbK.at_ o.hp (h2 := fun q => die_code)
  have inM : m.pm ∈ Ml c.M ++ s.X := by rw [hM]; simp [Ml]
  refine Rep.step (s := s) (k := s.k) rp (wo_mut inM) (fun a ha _ => upd_ne fun z => ?_) ?_ (rp.tb.trans tb)
  · have := rp.xm a ha
    rw [hM] at this
    exact this (by rw [z]; simp [Ml])
  · rw [hM]
    refine .ofK hkd ⟨_, upd_same, o.pc, o.pg, fun x hx => ?_, fun x hx => ?_, fun x hx => ?_, addL_nd o.nd, o.lz, tb.tabs _ o.tb⟩
    · rcases addL_mem hx with h | rfl
      · exact tb.st (o.keys x h)
      · exact tb.st hq
    · rcases addL_mem hx with h | rfl
      · exact o.val x h
      · rfl
    · rcases addL_mem hx with h | rfl
      · exact o.z x h
      · exact hz
abbrev tuI (r : List Int) : D := .tup (r.map D.int)
theorem Rep.row {c : C} {s : S} {σ : L2.St} {H : Hp} {j : Nat} {r : List Int} (rp : Rep c s σ H) (h : s.sl[j]? = some (.dat (tuI r))) : ∃ q, σ[j]? = some (some (.ref q)) ∧ SqT c.K H q (r.map V.int) := by
  obtain ⟨v, e, hv⟩ := rp.slot j _ h
  obtain ⟨q, vs, rfl, h1, h2⟩ := hv.tupE
  rw [RlA.ints_v h2] at h1
  exact ⟨q, e, (wo_sub _ _).st h1⟩
abbrev dMemo (i j : Nat) (t1 t2 : DS) (te : DE) : DS := fun DD s => ∃ N Z r, s.sl[i]? = some (.kds N Z) ∧ s.sl[j]? = some (.dat (tuI r)) ∧ r ∈ Z ∧ DD.rt (.int (N r)) s.k ∧
  t1 { DD with nx := t2 { DD with nx := fun s' => s'.sl[i]? = some (.kds N Z) ∧ s'.sl[j]? = some (.dat (tuI r)) ∧ te s' fun d k => d = .int (N r) ∧ DD.rt (.int (N r)) k } } s
section
variable {X : Cx} {c : C}
theorem psd_memo (hK : c.K = X.K) {l : Nat} (hr : Room l X.A) (i j : Nat) {x y : PySem.Str} {p1 p2 p3 p4 p5 p6 p7 p8 p9 pa pb pc : Pos} {s1 s2 : Stmt} {e : Expr} {t1 t2 : DS} {te : DE} (h1 : PS X s1 (LS c t1)) (h2 : PS X s2 (LS c t2)) (he : PE X e (LE c te))
    (hN : X.N[i]? = some x := by rfl) (hv : Vis X.env.scope x := by first | exact Or.inl rfl | exact Or.inr (Or.inl rfl) | exact Or.inr (Or.inr rfl)) (hN2 : X.N[j]? = some y := by rfl) (hv2 : Vis X.env.scope y := by first | exact Or.inl rfl | exact Or.inr (Or.inl rfl) | exact Or.inr (Or.inr rfl))
    (hd : (x == ("__debug__" : PySem.Str)) = false := by decide) (hcd : (x == ("__classdict__" : PySem.Str)) = false := by decide) (hd2 : (y == ("__debug__" : PySem.Str)) = false := by decide) (hcd2 : (y == ("__classdict__" : PySem.Str)) = false := by decide)
    (hm : behindInMarks .NotIn (.Name x p2) = false := by first | exact nomark _ | rfl)
    (ha : ∀ v, assign (.Subscript (.Name x p4) (.Name y p5) p6) X.env v = (do
      let ov ← holding [v] (eval (.Name x p4) X.env)
      let iv ← holding [v, ov] (eval (.Name y p5) X.env)
      standAt p6
      holding [v, ov, iv] (setItem ov iv v)
      release [v, ov, iv] []) := by intro _; rfl)
    (hs : swapsWithSole [.Subscript (.Name x p4) (.Name y p5) p6] e p7.line X.env = pure false := by rfl) (hsw : swappedStores [.Subscript (.Name x p4) (.Name y p5) p6] e X.env = pure none := by rfl)
    (hA : (assignEach [.Subscript (.Name x p4) (.Name y p5) p6] X.env).map (·.2) = [assign (.Subscript (.Name x p4) (.Name y p5) p6) X.env] := by rfl) (hns : NoSl (.Name y p9) := by exact fun _ _ => rfl) :
    PSs X [.If (.Compare (.Name y p1) [.NotIn] [.Name x p2] p3) [s1, s2, .Assign [.Subscript (.Name x p4) (.Name y p5) p6] e p7] [] p8, .Return (some (.Subscript (.Name x pa) (.Name y p9) pb)) pc] (LS c (dMemo i j t1 t2 te)) := by
  have hu : X.A.units + 1 < cLine := hu_of hr
  refine (pss_cons (ps_if (pt_cmpR (op_ninK hu) (pe_var hN2 hv2 hd2 hcd2) (pe_var hN hv hd hcd) hm) (pss_cons h1 (pss_cons h2 (pss_one (ps_asg he (pg_sub (pe_var hN hv hd hcd) (pe_var hN2 hv2 hd2 hcd2) (set_K hu) ha) hs hsw hA)))) pss_nil)
    (pss_one (ps_ret (pe_getK hu (pe_var hN hv hd hcd) (pe_var hN2 hv2 hd2 hcd2) hns)))).weak fun D σ H ⟨s, DD, rp, ⟨N, Z, r, hi, hj, hz, hit, miss⟩, f⟩ => ?_
  obtain ⟨m, ⟨hM, hkd⟩, e0⟩ := rp.slot i _ hi
  obtain ⟨q, e1, hq⟩ := rp.row hj
  have hmat := rp.m
  rw [hM] at hmat
  obtain ⟨L, o⟩ := hmat.kn hkd
  have val : ∀ {H : Hp} {L : List (Addr × List Int × Int)}, KOk m ⟨c.K, N, Z⟩ H L → ∀ x ∈ L, x.2.1 = r → x.2.2 = N r := fun o x hx e => by rw [o.val x hx, e]
  refine ⟨_, e1, _, e0, m.pm, q, L, r, rfl, rfl, o.hp, hK ▸ o.keys, hK ▸ hq, _, rfl, ?_⟩
  by_cases z : r ∈ ksL L
  · rw [decide_eq_true z]
    refine (if_neg (by decide : ¬ (!true) = true)).mpr ?_
    obtain ⟨x, hx, ex⟩ := List.mem_map.mp z
    have ex : x.2.1 = r := ex
    refine ⟨_, e0, _, e1, m.pm, q, L, r, N r, rfl, rfl, o.hp, hK ▸ o.keys, hK ▸ hq, ⟨x.1, ?_⟩, f.rt _ _ _ H rp.fin (.int _) hit⟩
    have := val o x hx ex
    rw [← ex, ← this] at *
    exact hx
  · rw [decide_eq_false z]
    refine (if_pos (by decide : (!false) = true)).mpr ?_
    refine ⟨s, _, rp, miss, ⟨fun s' σ' H' r1 a1 q1 => ⟨s', _, r1, q1, ⟨fun s2 σ2 H2 r2 a2 ⟨g1, g2, g3⟩ => ?_, fun s2 σ2 H2 r2 a2 q2 => f.bk s2 σ2 H2 r2 (Sub.trans a1 a2) q2, fun s2 σ2 H2 r2 a2 q2 => f.ct s2 σ2 H2 r2 (Sub.trans a1 a2) q2, f.rt⟩⟩, f.bk, f.ct, f.rt⟩⟩
    refine ⟨s2, _, r2, g3, fun d k ⟨hd, hrt⟩ v H3 r3 a3 ev => ?_⟩
    subst hd
    cases ev.intE
    obtain ⟨m', ⟨hM', hkd'⟩, f0⟩ := r3.slot i _ g1
    rw [hM] at hM'
    cases hM'
    obtain ⟨q', f1, hq'⟩ := r3.row g2
    have hmat := r3.m
    rw [hM] at hmat
    obtain ⟨L', o'⟩ := hmat.kn hkd
    refine ⟨_, f0, _, f1, m.pm, q', L', r, N r, rfl, rfl, rfl, o'.hp, hK ▸ o'.keys, hK ▸ hq', val o', o'.few, ?_⟩
    have r4 := r3.kset hM hkd o' hq' hz
    have hmat := r4.m
    obtain ⟨q2, f2, hq2⟩ := r4.row g2
    rw [f1] at f2
    cases f2
    have k4 : KsT c.K (upd H3 m.pm (.ext (DiE m.pm (addL L' q' r (N r))))) (addL L' q' r (N r)) := fun x hx => by
      have tb : TbK H3 (upd H3 m.pm (.ext (DiE m.pm (addL L' q' r (N r))))) := TbK.at_ o'.hp (h2 := fun q => die_code)
      rcases addL_mem hx with h | rfl
      · exact tb.st (o'.keys x h)
      · exact tb.st hq'
    exact ⟨_, f0, _, f1, m.pm, q', _, r, N r, rfl, rfl, upd_same, hK ▸ k4, hK ▸ hq2, addL_has (val o'), f.rt _ _ _ _ r4.fin (.int _) hrt⟩
end
end DL
set_option maxHeartbeats 1000000
namespace DL
open PySem L2
open PySem.W (Frag)
abbrev mcK (K : Frag) (N : List Int → Int) (Z : List (List Int)) (p : Addr) : Mc := ⟨p, p, p, [], some ⟨K, N, Z⟩⟩
abbrev C.kn (c : C) (N : List Int → Int) (Z : List (List Int)) (p : Addr) (X : List Addr) (H : Hp) : C := ⟨c.K, some (mcK c.K N Z p), X, H, c.ow⟩
@[reducible] def Sl.nO : Sl → Sl
  | .own _ _ => .no
  | .kds _ _ => .no
  | .mst => .no
  | x => x
theorem Rep.sw {c : C} {s : S} {σ : L2.St} {H : Hp} {p : Addr} {i : Nat} {N : List Int → Int} {Z : List (List Int)} (rp : Rep c s σ H) (hM : c.M = none) (hp : H p = none) (hz : Z.length ≤ 100000) (hi : i < s.sl.length) :
    Rep (c.kn N Z p s.X (upd H p (.ext (DiE p [])))) ⟨s.X, (s.sl.map Sl.nO).set i (.kds N Z), s.k⟩ (σ.set i (some (.ref p))) (upd H p (.ext (DiE p []))) := by
  have nf : p ∉ s.X := fun z => rp.xs p z hp
  have up : Sub (c.hid s.X H) ((c.kn N Z p s.X (upd H p (.ext (DiE p [])))).hid s.X (upd H p (.ext (DiE p [])))) := fun b o eb => by
    obtain ⟨z1, z2, z3⟩ := wo_all eb
    have nb : b ≠ p := fun z => by rw [z, hp] at z2; cases z2
    refine wo_of (fun z => ?_) (by rw [upd_ne nb]; exact z2) z3
    rcases List.mem_append.mp z with z | z
    · simp [Ml] at z; exact nb z
    · exact z1 (List.mem_append_right _ z)
  have le : σ.length = s.sl.length := rp.len.symm
  refine ⟨Sub.refl _, fun _ _ _ _ => rfl, fun _ h => h, fun a ha z => ?_, fun a ha => ?_, ?_, fun j x e => ?_, fun j k a b ds es e1 _ _ => ?_, by show ((s.sl.map Sl.nO).set i _).length = (σ.set i _).length; rw [List.length_set, List.length_map, List.length_set]; exact rp.len, .refl, fun a ha ps => ?_⟩
  · simp [Ml] at z
    rw [z] at ha
    exact nf ha
  · rw [upd_ne fun z => nf (by rw [← z]; exact ha)]
    exact rp.xs a ha
  · exact .ofK rfl ⟨[], upd_same, rfl, rfl, fun x hx => (nomatch hx), fun x hx => (nomatch hx), fun x hx => (nomatch hx), List.nodup_nil, hz, fun p hp => (nomatch hp)⟩
  · have e : ((s.sl.map Sl.nO).set i (.kds N Z))[j]? = some x := e
    by_cases hj : i = j
    · subst hj
      rw [List.getElem?_set_self (by rw [List.length_map]; exact hi)] at e
      cases e
      exact ⟨mcK c.K N Z p, ⟨rfl, rfl⟩, List.getElem?_set_self (by omega)⟩
    · rw [List.getElem?_set_ne hj, List.getElem?_map] at e
      obtain ⟨y, hy, rfl⟩ := Option.map_eq_some_iff.mp e
      have q := rp.slot j y hy
      show SlOk _ _ _ (σ.set i (some (.ref p)))[j]? _
      rw [List.getElem?_set_ne hj]
      cases y with
      | no => trivial
      | dat d =>
        obtain ⟨v, e, h⟩ := q
        exact ⟨v, e, h.mono up⟩
      | own a ds => trivial
      | mst => trivial
      | kds N Z => trivial
      | scr ns =>
        obtain ⟨v, e, h⟩ := q
        exact ⟨v, e, up.sl h⟩
  · have e1 : ((s.sl.map Sl.nO).set i (.kds N Z))[j]? = some (.own a ds) := e1
    by_cases hj : i = j
    · subst hj
      rw [List.getElem?_set_self (by rw [List.length_map]; exact hi)] at e1
      cases e1
    · rw [List.getElem?_set_ne hj, List.getElem?_map] at e1
      obtain ⟨y, hy, e2⟩ := Option.map_eq_some_iff.mp e1
      cases y <;> cases e2
  · rw [upd_ne fun z => nf (by rw [← z]; exact ha)]
    exact rp.xt a ha ps
theorem Rep.bk {c : C} {s : S} {σ : L2.St} {H : Hp} {p : Addr} {N : List Int → Int} {Z : List (List Int)} (rp : Rep c s σ H) (hM : c.M = none) (hp : H p = none) {k : Nat} {s2 : S} {τ : L2.St} {G : Hp} (r2 : Rep (c.kn N Z p s.X (upd H p (.ext (DiE p [])))) s2 τ G) :
    Rep c ⟨s.X, List.replicate τ.length .no, k⟩ τ G ∧ Sub ((c.kn N Z p s.X (upd H p (.ext (DiE p [])))).hid s2.X G) (c.hid s.X G) := by
  have nf : p ∉ s.X := fun z => rp.xs p z hp
  have up : Sub (c.hid s.X H) ((c.kn N Z p s.X (upd H p (.ext (DiE p [])))).hid s.X (upd H p (.ext (DiE p [])))) := fun b o eb => by
    obtain ⟨z1, z2, z3⟩ := wo_all eb
    have nb : b ≠ p := fun z => by rw [z, hp] at z2; cases z2
    refine wo_of (fun z => ?_) (by rw [upd_ne nb]; exact z2) z3
    rcases List.mem_append.mp z with z | z
    · simp [Ml] at z; exact nb z
    · exact z1 (List.mem_append_right _ z)
  have dn : Sub ((c.kn N Z p s.X (upd H p (.ext (DiE p [])))).hid s2.X G) (c.hid s.X G) := wo_more fun b hb => by
    rw [hM] at hb
    rcases List.mem_append.mp hb with hb | hb
    · simp [Ml] at hb
    · exact List.mem_append_right _ (r2.x0 b hb)
  have same : ∀ a ∈ s.X, G a = H a := fun a ha => by
    have na : a ≠ p := fun z => nf (by rw [← z]; exact ha)
    have e := r2.old a ha (fun z => by simp [Ml] at z; exact na z) (by show upd H p _ a ≠ none; rw [upd_ne na]; exact rp.xs a ha)
    rw [e]
    exact upd_ne na
  have tb : TbK H G := (TbK.new hp).trans r2.tb
  refine ⟨⟨((rp.sub.trans up).trans r2.sub).trans dn, fun a ha hm hn => ?_, rp.x0, rp.xm, fun a ha => by rw [same a ha]; exact rp.xs a ha, by rw [hM]; trivial, fun i x e => ?_, fun i j a b ds es e1 _ _ => ?_, List.length_replicate, rp.tb.trans tb, fun a ha ps => by rw [same a ha]; exact rp.xt a ha ps⟩, dn⟩
  · rw [same a (rp.x0 a ha)]
    exact rp.old a ha hm hn
  · have e : (List.replicate τ.length Sl.no)[i]? = some x := e
    rw [List.getElem?_replicate] at e
    split at e
    · cases e; trivial
    · cases e
  · have e1 : (List.replicate τ.length Sl.no)[i]? = some (.own a ds) := e1
    rw [List.getElem?_replicate] at e1
    split at e1 <;> cases e1
abbrev dKnown (i : Nat) (t : DS) : DS := fun DD s => ∃ (N : List Int → Int) (Z : List (List Int)), Z.length ≤ 100000 ∧ i < s.sl.length ∧ t { nx := fun _ => False, rt := DD.rt } ⟨s.X, (s.sl.map Sl.nO).set i (.kds N Z), s.k⟩
def Out (c' c : C) : Prop := ∀ (s2 : S) (τ : L2.St) (G : Hp), Rep c' s2 τ G → ∃ s3 : S, s3.k = s2.k ∧ Rep c s3 τ G ∧ Sub (c'.hid s2.X G) (c.hid s3.X G)
theorem Rep.out {c : C} {s : S} {σ : L2.St} {H : Hp} {p : Addr} {N : List Int → Int} {Z : List (List Int)} (rp : Rep c s σ H) (hM : c.M = none) (hp : H p = none) : Out (c.kn N Z p s.X (upd H p (.ext (DiE p [])))) c := fun s2 τ G r2 =>
  ⟨⟨s.X, List.replicate τ.length .no, s2.k⟩, rfl, (rp.bk hM hp (k := s2.k) r2).1, (rp.bk hM hp (k := s2.k) r2).2⟩
theorem Fin.bk {c : C} {s : S} {σ : L2.St} {H : Hp} {p : Addr} {N : List Int → Int} {Z : List (List Int)} (rp : Rep c s σ H) (hM : c.M = none) (hp : H p = none) {k : Nat} {G : Hp} (fi : Fin (c.kn N Z p s.X (upd H p (.ext (DiE p [])))) G k) :
    Fin c G k ∧ Sub ((c.kn N Z p s.X (upd H p (.ext (DiE p [])))).hid s.X G) (c.hid c.X0 G) := by
  have nf : p ∉ s.X := fun z => rp.xs p z hp
  have up : Sub (c.hid s.X H) ((c.kn N Z p s.X (upd H p (.ext (DiE p [])))).hid s.X (upd H p (.ext (DiE p [])))) := fun b o eb => by
    obtain ⟨z1, z2, z3⟩ := wo_all eb
    have nb : b ≠ p := fun z => by rw [z, hp] at z2; cases z2
    refine wo_of (fun z => ?_) (by rw [upd_ne nb]; exact z2) z3
    rcases List.mem_append.mp z with z | z
    · simp [Ml] at z; exact nb z
    · exact z1 (List.mem_append_right _ z)
  have dn : Sub ((c.kn N Z p s.X (upd H p (.ext (DiE p [])))).hid s.X G) (c.hid c.X0 G) := wo_more fun b hb => by
    rw [hM] at hb
    rcases List.mem_append.mp hb with hb | hb
    · simp [Ml] at hb
    · exact List.mem_append_right _ (rp.x0 b hb)
  refine ⟨⟨((rp.sub.trans up).trans fi.sub).trans dn, fun a ha hm hn => ?_, by rw [hM]; trivial, rp.tb.trans ((TbK.new hp).trans fi.tb)⟩, dn⟩
  have ha2 := rp.x0 a ha
  have na : a ≠ p := fun z => nf (by rw [← z]; exact ha2)
  have e := fi.old a ha2 (fun z => by simp [Ml] at z; exact na z) (by show upd H p _ a ≠ none; rw [upd_ne na]; exact rp.xs a ha2)
  rw [e]
  show upd H p _ a = _
  rw [upd_ne na]
  exact rp.old a ha hm hn
def exK (c : C) (t : DS) : TS := fun D σ H => ∃ c', c'.K = c.K ∧ c'.ow = c.ow ∧ Out c' c ∧ LS c' t D σ H
theorem PSs.exK {X : Cx} {st : List Stmt} {c : C} {t : DS} (h : ∀ c', c'.K = c.K → c'.ow = c.ow → Out c' c → PSs X st (LS c' t)) : PSs X st (DL.exK c t) := ⟨fun pins s σ H Q I ⟨c', hc, ho, hx, q⟩ => (h c' hc ho hx).run pins s σ H Q I q⟩
section
variable {X : Cx} {c : C}
theorem psd_known (hM : c.M = none) (i : Nat) {x : PySem.Str} {p1 p2 p3 : Pos} {rest : List Stmt} {t : DS} (hNd : X.N.Nodup) (hrest : ∀ c', c'.K = c.K → c'.ow = c.ow → Out c' c → PSs X rest (LS c' t))
    (hi : X.N[i]? = some x := by rfl) (hz : Loc X.env.scope x := by first | exact Or.inl rfl | exact Or.inr rfl) (hs : swapsWith (.Dict [] [] p2) (some (.Name x p1)) p3.line X.env = pure false := by rfl) (hf : X.fn x = true ∨ X.env.scope.names.lookup x = some .local := by first | exact .inl rfl | exact .inr rfl) :
    PSs X (.Assign [.Name x p1] (.Dict [] [] p2) p3 :: rest) (LS c (dKnown i t)) :=
  (pss_cons (ps_set hNd hi hz pe_newK hs hf) (PSs.exK (c := c) (t := t) hrest)).weak fun D σ H ⟨s, DD, rp, ⟨N, Z, hlz, hi, q⟩, f⟩ => by
    intro p hp
    refine ⟨c.kn N Z p s.X (upd H p (.ext (DiE p []))), rfl, rfl, rp.out hM hp, _, _, rp.sw hM hp hlz hi, q, ⟨fun _ _ _ _ _ q => q.elim, fun _ _ _ _ _ q => q.elim, fun _ _ _ _ _ q => q.elim, fun d k v H' fi ev hrt => ?_⟩⟩
    have z := Fin.bk rp hM hp fi
    exact f.rt d k v H' z.1 (ev.mono z.2) hrt
end
section
variable {P : Program} {w : World} {K : Frag} {mg : PySem.Str → Option Value} {base : Heap}
theorem okDZ {x qual : PySem.Str} {st : Stmt} {f : Addr} {fd : FuncData} {N ps : List PySem.Str} {k : Nat} {sp : DSp} (F : Fun K x qual st f fd) (Sc : FnScope N ps (defScope st)) (ow : List Nat)
    (len : ∀ ds k R, sp ds k R → ds.length = ps.length)
    (body : ∃ t : DS, (∀ (cdv : Value) (A : Around) (outer : List Env) (s : Shared) (H : Hp) (E : XK) (c : C), c.K = K → c.ow = ow → c.M = none → Room k (A.deeper (PyProof.Rows.envOfC qual (defScope st) s.heap.objs.size f cdv)) →
        PSs (cxOf CX0 P w K mg base N qual (defScope st) f cdv A outer s H E).nox (defBody st) (LS c t)) ∧
      ∀ X ds k R, sp ds k R → t { nx := fun s => R .non s.k, rt := R } ⟨X, init false N.length ds, k⟩) :
    FnOk P w K mg base CX0 (k + 1) f fd ps (spD K false sp) := by
  obtain ⟨t, hb, hr⟩ := body
  have lens : ∀ vs H Q E, spD K false sp vs H Q E → vs.length = ps.length := fun vs H Q E ⟨M, X0, k, ds, ws, R, ⟨_, e⟩, a, h2, h3⟩ => by
    subst e
    rw [a.args.len]
    exact len ds k R h2
  refine F.ok Sc lens fun cdv A outer s H vs Q E room h => ?_
  have hl := lens _ _ _ _ h
  obtain ⟨M, X0, k', ds, ws, R, ⟨hM, e⟩, a, h2, h3⟩ := h
  subst hM e
  have hpl : ps.length ≤ N.length := by have := congrArg List.length Sc.pre; rw [List.length_take] at this; omega
  refine ⟨LS ⟨K, none, X0, H, ow⟩ t, hb cdv A outer s H E ⟨K, none, X0, H, ow⟩ rfl rfl rfl room, ⟨X0, init false N.length ds, k'⟩, _, init_rep (c := ⟨K, none, X0, H, ow⟩) (hm := false) rfl ⟨rfl, rfl⟩ a (by omega), hr X0 ds k' R h2, ?_⟩
  have fin : ∀ d k v H', Fin ⟨K, none, X0, H, ow⟩ H' k → Rl K (wo H' (Ml none ++ X0)) v d → R d k → Q v H' := fun d k v H' fi e r => h3 d k r v H' ⟨fi.sub, fun b hb => fi.old b hb (a.xm b hb) (a.xs b hb), fi.m, fi.tb⟩ e
  exact ⟨fun s' σ' H' r _ q => fin .non s'.k .non H' r.fin .non q, fun _ _ _ _ _ q => q, fun _ _ _ _ _ q => q, fun d k v H' fi e r => fin d k v H' fi e r⟩
end
end DL
namespace PySem
end PySem
namespace L2
open PySem
open PyProof.Rows (IntsAre)
end L2
namespace DL
open PySem L2
open PySem.W (Frag)
abbrev dSum (t : DE) : DE := fun s Q => t s fun d k => ∃ ns : List Int, d = .lst (ns.map .int) ∧ Q (.int ns.sum) k
section
variable {X : Cx} {c : C} {p pos : Pos}
theorem pd_sum (hK : c.K = X.K) (hm : X.mg "sum" = none) (hc : X.calm = true) {e : Expr} {t : DE} (h : PE X e (LE c t)) (hg : Gl X "sum" := by rfl) (hs : starEach [e] X.env = (false, eval e X.env) :: starEach [] X.env := by rfl) (hp : (backTo pos (starEach [] X.env)).any (·.1) = false := by rfl) :
    PE X (.Call (.Name "sum" p) [e] [] pos) (LE c (dSum t)) :=
  (pe_callB (cr_sum hc) hg hm (by first | exact PySem.boot_sum | exact PyProof.Rows.boot_sum | rfl) (pa_cons h pa_nil hs) (he := hs) (hpl := hp)).weak fun σ H Q ⟨s, R, rp, q, f⟩ => ⟨s, _, rp, q, fun d k ⟨ns, h1, h2⟩ v H1 r1 a1 e1 => by
    subst h1
    obtain ⟨a, vs, rfl, h, r⟩ := e1.lstE
    obtain rfl := r.ints_v
    exact ⟨a, ns, rfl, hK ▸ SqL.of (wo_sub _ _ _ _ h), f _ k h2 _ H1 r1 a1 (.int _)⟩⟩
end
end DL
set_option maxHeartbeats 1000000
namespace BW
open PySem L2 DL
def Ws (T : Mat) : List Int → List Deed → List Int → Prop
  | w, [], v => v = w
  | w, e :: r, v => ∃ k u, e = .turn k ∧ mv T w (.turn k) = some u ∧ Ws T u r v
theorem Ws.app {T : Mat} : ∀ {es fs : List Deed} {w u v : List Int}, Ws T w es u → Ws T u fs v → Ws T w (es ++ fs) v
  | [], fs, w, u, v, h, g => by
    have h : u = w := h
    subst h
    exact g
  | e :: r, fs, w, u, v, ⟨k, x, a, b, c⟩, g => ⟨k, x, a, b, Ws.app c g⟩
theorem mv_suf {T : Mat} {w u z : List Int} {k : Nat} (h : mv T w (.turn k) = some u) : mv T (w ++ z) (.turn k) = some (u ++ z) := by
  rw [mv_turn] at h ⊢
  split at h
  case isFalse => cases h
  rename_i c
  have g0 : (w ++ z).getD k 0 = w.getD k 0 := by rw [List.getD_eq_getElem?_getD, List.getD_eq_getElem?_getD, List.getElem?_append_left (by omega)]
  have g1 : (w ++ z).getD (k + 1) 0 = w.getD (k + 1) 0 := by rw [List.getD_eq_getElem?_getD, List.getD_eq_getElem?_getD, List.getElem?_append_left (by omega)]
  rw [g0, g1, if_pos ⟨by rw [List.length_append]; omega, c.2⟩]
  split at h
  case isFalse => cases h
  rename_i c2
  cases h
  have l := congrArg List.length c2.2
  rw [alt_length, List.length_take, List.length_drop] at l
  have d1 : (w ++ z).drop k = w.drop k ++ z := List.drop_append_of_le_length (by omega)
  have t1 : ((w ++ z).drop k).take (at2 T (ix (w.getD k 0)) (ix (w.getD (k + 1) 0))).toNat = (w.drop k).take (at2 T (ix (w.getD k 0)) (ix (w.getD (k + 1) 0))).toNat := by
    rw [d1, List.take_append_of_le_length (by rw [List.length_drop]; omega)]
  rw [t1, if_pos c2, List.take_append_of_le_length (by omega), List.drop_append_of_le_length (by omega), List.append_assoc (_ ++ _) _ z]
theorem Ws.suf {T : Mat} {z : List Int} : ∀ {es : List Deed} {w v : List Int}, Ws T w es v → Ws T (w ++ z) es (v ++ z)
  | [], w, v, h => by
    have h : v = w := h
    subst h
    rfl
  | e :: r, w, v, ⟨k, u, a, b, c⟩ => ⟨k, u ++ z, a, mv_suf b, Ws.suf c⟩
theorem Ws.all {T : Mat} (ht : Tab T) : ∀ {es : List Deed} {w v : List Int}, Ws T w es v → Wd T.length w → Wd T.length v ∧ v.length = w.length ∧ row T v = row T w
  | [], w, v, h, hw => by
    have h : v = w := h
    subst h
    exact ⟨hw, rfl, rfl⟩
  | e :: r, w, v, ⟨k, u, a, b, c⟩, hw => by
    have hu : Wd T.length u := mv_wd (e := .turn k) hw trivial b
    obtain ⟨h1, h2, h3⟩ := Ws.all ht c hu
    exact ⟨h1, h2.trans (mv_turn_len0 b), h3.trans (mv_row ht (e := .turn k) hw trivial b)⟩
where
  mv_turn_len0 {T : Mat} {w v : List Int} {k : Nat} (h : mv T w (.turn k) = some v) : v.length = w.length := by
    rw [mv_turn] at h
    split at h
    · rename_i c
      split at h
      · rename_i c2
        cases h
        have l := congrArg List.length c2.2
        rw [alt_length, List.length_take, List.length_drop] at l
        rw [List.length_append, List.length_append, alt_length, List.length_take, List.length_drop]
        omega
      · cases h
    · cases h
abbrev blS (f : List Int → Int → List Int × List Deed) (L : Nat) (a b : Int) (s0 : List Int × List Deed) : Nat → List Int × List Deed
  | 0 => s0
  | p + 1 => ((f ((blS f L a b s0 p).1.take (L - p)) (if p % 2 = 0 then a else b)).1 ++ (blS f L a b s0 p).1.drop (L - p), (blS f L a b s0 p).2 ++ (f ((blS f L a b s0 p).1.take (L - p)) (if p % 2 = 0 then a else b)).2)
def bl (T : Mat) : Nat → List Int → Int → List Int × List Deed
  | 0, w, _ => (w, [])
  | n + 1, w, a => if w.getLastD 0 = a then (w, []) else
    ((mv T (blS (bl T n) w.length (w.getLastD 0) a (w, []) (at2 T (ix (w.getLastD 0)) (ix a)).toNat).1 (.turn (w.length - (at2 T (ix (w.getLastD 0)) (ix a)).toNat))).getD (blS (bl T n) w.length (w.getLastD 0) a (w, []) (at2 T (ix (w.getLastD 0)) (ix a)).toNat).1,
      (blS (bl T n) w.length (w.getLastD 0) a (w, []) (at2 T (ix (w.getLastD 0)) (ix a)).toNat).2 ++ [.turn (w.length - (at2 T (ix (w.getLastD 0)) (ix a)).toNat)])
def sz (w : List Int) (a : Int) : Nat := 2 * w.length + if w.getLastD 0 = a then 0 else 1
theorem bl_same {T : Mat} {n : Nat} {w : List Int} {a : Int} (h : w.getLastD 0 = a) : bl T n w a = (w, []) := by
  cases n with
  | zero => rfl
  | succ n =>
    unfold bl
    rw [if_pos h]
theorem lastD_snoc (v : List Int) (a : Int) : (v ++ [a]).getLastD 0 = a := by
  rw [List.getLastD_eq_getLast?, List.getLast?_append]; rfl
structure Bq (T : Mat) (w : List Int) (j : Nat) : Prop where
  hj : j < T.length
  hw : Wd T.length w
  sh : Sh T w
  lo : (row T w).getD j 0 < 0
structure Br (T : Mat) (w : List Int) (j : Nat) (r : List Int × List Deed) : Prop where
  ws : Ws T w r.2 r.1
  last : ∃ v, r.1 = v ++ [(j : Int) + 1]
  few2 : 2 * r.2.length ≤ 2 ^ w.length
theorem Br.few {T : Mat} {w : List Int} {j : Nat} {r : List Int × List Deed} (h : Br T w j r) : r.2.length < 2 ^ w.length := by
  have := h.few2
  have := Nat.two_pow_pos w.length
  omega
theorem alt_snoc (a b : Int) (p : Nat) : alt a b (p + 1) = alt a b p ++ [if p % 2 = 0 then a else b] := by
  unfold alt
  rw [List.range_succ, List.map_append]
  rfl
theorem Bq.ne {T : Mat} {w : List Int} {j : Nat} (h : Bq T w j) : w ≠ [] := fun z => by
  subst z
  have := h.lo
  have e : row T [] = one T := rfl
  rw [e] at this
  unfold one at this
  rw [List.getD_eq_getElem?_getD, List.getElem?_replicate, if_pos h.hj] at this
  exact absurd this (by decide)
theorem Bq.own {T : Mat} (ht : Tab T) {w : List Int} {j : Nat} (h : Bq T w j) : ∃ (v : List Int) (i : Nat), i < T.length ∧ w = v ++ [(i : Int) + 1] ∧ w.getLastD 0 = (i : Int) + 1 ∧ (row T w).getD i 0 < 0 := by
  rcases snoc_cases h.hw with e | ⟨v, i, hi, hv, e⟩
  · exact absurd e h.ne
  · subst e
    exact ⟨v, i, hi, rfl, lastD_snoc v _, (Sh.last ht hi hv h.sh).1⟩
theorem LN.far {T : Mat} (ht : Tab T) : ∀ {z u : List Int} {k l : Nat}, Wd T.length u → Wd T.length z → LN T u k → LN T (u ++ z) l → k ≤ l + z.length
  | [], u, k, l, hu, hz, h, g => by
    rw [List.append_nil] at g
    have := h.uniq g
    show k ≤ l + 0
    omega
  | a :: z, u, k, l, hu, hz, h, g => by
    have ha := hz a List.mem_cons_self
    obtain ⟨i, rfl⟩ : ∃ i : Nat, a = (i : Int) + 1 := ⟨(a - 1).toNat, by omega⟩
    have hi : i < T.length := by omega
    have hu2 : Wd T.length (u ++ [(i : Int) + 1]) := wd_app hu (wd_one hi)
    have hz2 : Wd T.length z := fun b hb => hz b (List.mem_cons_of_mem _ hb)
    have e : u ++ (((i : Int) + 1) :: z) = (u ++ [(i : Int) + 1]) ++ z := by rw [List.append_assoc]; rfl
    rw [e] at g
    have m := LN.more ht hu h hi
    rw [List.length_cons]
    by_cases c : ((i : Int) + 1) ∈ fall (row T u)
    · rw [if_pos c] at m
      have := LN.far ht hu2 hz2 m.2 g
      have := m.1
      omega
    · rw [if_neg c] at m
      have := LN.far ht hu2 hz2 m g
      omega
theorem alt_cut (a b : Int) {p m : Nat} (h : p ≤ m) : alt a b m = alt a b p ++ (alt a b m).drop p := by
  have : (alt a b m).take p = alt a b p := by
    unfold alt
    rw [← List.map_take, List.take_range, Nat.min_eq_left h]
  rw [← this, List.take_append_drop]
theorem two_at {T : Mat} (ht : Tab T) {w : List Int} {i j : Nat} (hw : Wd T.length w) (hs : Sh T w) (hi : i < T.length) (hj : j < T.length) (ne : i ≠ j) (ni : (row T w).getD i 0 < 0) (nj : (row T w).getD j 0 < 0) :
    0 < at2 T i j ∧ (at2 T i j).toNat ≤ w.length ∧ ∀ p, p ≤ (at2 T i j).toNat → LN T (w ++ alt ((i : Int) + 1) ((j : Int) + 1) p) (w.length - p) := by
  obtain ⟨h0, hd⟩ := dn_two ht hw hs hi hj ne ni nj
  obtain ⟨l, e, hl⟩ := hd.end_
  refine ⟨h0, by omega, fun p hp => ?_⟩
  have wa : ∀ q, Wd T.length (alt ((i : Int) + 1) ((j : Int) + 1) q) := fun q => alt_wd ⟨by omega, by omega⟩ ⟨by omega, by omega⟩ q
  obtain ⟨kp, hkp, _⟩ := LN.has (wd_app hw (wa p))
  have f1 := LN.far ht hw (wa p) hs hkp
  rw [alt_length] at f1
  rw [alt_cut _ _ hp, ← List.append_assoc] at hl
  have f2 := LN.far ht (wd_app hw (wa p)) (fun b hb => wa _ b (List.mem_of_mem_drop hb)) hkp hl
  rw [List.length_drop, alt_length] at f2
  have : kp = w.length - p := by omega
  rw [this] at hkp
  exact hkp
theorem fall_of_less {T : Mat} (ht : Tab T) {u : List Int} {k i : Nat} (hu : Wd T.length u) (hi : i < T.length) (h : LN T u (k + 1)) (g : LN T (u ++ [(i : Int) + 1]) k) : (row T u).getD i 0 < 0 := by
  have m := LN.more ht hu h hi
  by_cases c : ((i : Int) + 1) ∈ fall (row T u)
  · exact (mem_fall (by rw [row_length]; exact hi)).mp c
  · rw [if_neg c] at m
    have := m.uniq g
    omega
structure Ip (T : Mat) (w : List Int) (i j p : Nat) (s : List Int × List Deed) : Prop where
  ws : Ws T w s.2 s.1
  ex : ∃ h, s.1 = h ++ (alt ((i : Int) + 1) ((j : Int) + 1) p).reverse ∧ h.length = w.length - p ∧ Wd T.length h ∧ row T h = row T (w ++ alt ((i : Int) + 1) ((j : Int) + 1) p)
  few : (p = 0 ∧ s.2.length = 0) ∨ (1 ≤ p ∧ 2 * s.2.length + 2 ^ (w.length - p + 1) ≤ 2 ^ w.length)
def xp (i j p : Nat) : Nat := if p % 2 = 0 then i else j
theorem xp_eq (i j p : Nat) : (if p % 2 = 0 then ((i : Int) + 1) else ((j : Int) + 1)) = ((xp i j p : Nat) : Int) + 1 := by
  unfold xp
  by_cases c : p % 2 = 0
  · rw [if_pos c, if_pos c]
  · rw [if_neg c, if_neg c]
section
variable {T : Mat} {w : List Int} {i j p : Nat} {s : List Int × List Deed}
theorem Ip.head (ht : Tab T) (hw : Wd T.length w) (hi : i < T.length) (hj : j < T.length) (I : Ip T w i j p s) (hp : p + 1 ≤ w.length) (l0 : LN T (w ++ alt ((i : Int) + 1) ((j : Int) + 1) p) (w.length - p)) (l1 : LN T (w ++ alt ((i : Int) + 1) ((j : Int) + 1) (p + 1)) (w.length - (p + 1))) :
    Bq T (s.1.take (w.length - p)) (xp i j p) ∧ (s.1.take (w.length - p)).length = w.length - p := by
  obtain ⟨h, e, lh, wh, rh⟩ := I.ex
  have et : s.1.take (w.length - p) = h := by rw [e, ← lh, List.take_left']; rfl
  rw [et]
  have wa : Wd T.length (alt ((i : Int) + 1) ((j : Int) + 1) p) := alt_wd ⟨by omega, by omega⟩ ⟨by omega, by omega⟩ p
  have hx : xp i j p < T.length := by unfold xp; split <;> assumption
  have sh : Sh T h := by
    have := l0.cong (wd_app hw wa) wh rh.symm
    rw [← lh] at this
    exact this
  refine ⟨⟨hx, wh, sh, ?_⟩, lh⟩
  rw [rh]
  have e1 : w ++ alt ((i : Int) + 1) ((j : Int) + 1) (p + 1) = (w ++ alt ((i : Int) + 1) ((j : Int) + 1) p) ++ [((xp i j p : Nat) : Int) + 1] := by rw [alt_snoc, xp_eq, List.append_assoc]
  rw [e1] at l1
  have e2 : w.length - p = (w.length - (p + 1)) + 1 := by omega
  rw [e2] at l0
  exact fall_of_less ht (wd_app hw wa) hx l0 l1
theorem Ip.next (ht : Tab T) (hw : Wd T.length w) (hi : i < T.length) (hj : j < T.length) (I : Ip T w i j p s) (hp : p + 1 ≤ w.length) {r : List Int × List Deed} (hr : Br T (s.1.take (w.length - p)) (xp i j p) r) (h0 : p = 0 → r.2 = []) :
    Ip T w i j (p + 1) (r.1 ++ s.1.drop (w.length - p), s.2 ++ r.2) := by
  obtain ⟨h, e, lh, wh, rh⟩ := I.ex
  have et : s.1.take (w.length - p) = h := by rw [e, ← lh, List.take_left']; rfl
  have ed : s.1.drop (w.length - p) = (alt ((i : Int) + 1) ((j : Int) + 1) p).reverse := by rw [e, ← lh, List.drop_left']; rfl
  rw [et] at hr
  rw [ed]
  have hx : xp i j p < T.length := by unfold xp; split <;> assumption
  obtain ⟨v, ev⟩ := hr.last
  obtain ⟨a1, a2, a3⟩ := hr.ws.all ht wh
  have wv : Wd T.length v := fun b hb => a1 b (by rw [ev]; exact List.mem_append_left _ hb)
  have lv : v.length + 1 = h.length := by rw [← a2, ev, List.length_append]; rfl
  have e1 : alt ((i : Int) + 1) ((j : Int) + 1) (p + 1) = alt ((i : Int) + 1) ((j : Int) + 1) p ++ [((xp i j p : Nat) : Int) + 1] := by rw [alt_snoc, xp_eq]
  refine ⟨?_, ⟨v, ?_, by omega, wv, ?_⟩, ?_⟩
  · refine I.ws.app ?_
    rw [e]
    exact hr.ws.suf
  · show r.1 ++ (alt ((i : Int) + 1) ((j : Int) + 1) p).reverse = _
    rw [e1, List.reverse_append, ev, List.append_assoc]
    rfl
  · rw [e1, ← List.append_assoc]
    refine row_cancel ht hx ?_
    rw [row_undo ht hx, ← ev, a3, rh]
  · have lf := hr.few2
    rw [lh] at lf
    refine .inr ⟨by omega, ?_⟩
    show 2 * (s.2 ++ r.2).length + 2 ^ (w.length - (p + 1) + 1) ≤ 2 ^ w.length
    rw [List.length_append, show w.length - (p + 1) + 1 = w.length - p by omega]
    rcases I.few with ⟨rfl, z⟩ | ⟨h1, z⟩
    · rw [h0 rfl, z, Nat.sub_zero]
      show 2 * (0 + 0) + _ ≤ _
      omega
    · have : 2 ^ (w.length - p + 1) = 2 ^ (w.length - p) * 2 := Nat.pow_succ ..
      omega
end
end BW
set_option maxHeartbeats 1000000
namespace BW
open PySem L2 DL
theorem turn_at {T : Mat} (ht : Tab T) {h : List Int} {a b : Nat} (ha : a < T.length) (hb : b < T.length) (ne : a ≠ b) (h0 : 0 < at2 T a b) :
    mv T (h ++ alt ((a : Int) + 1) ((b : Int) + 1) (at2 T a b).toNat) (.turn h.length) = some (h ++ alt ((b : Int) + 1) ((a : Int) + 1) (at2 T a b).toNat) := by
  obtain ⟨m, em⟩ : ∃ m, (at2 T a b).toNat = m + 2 := by
    rcases ht.of a b ha hb ne with e | e | e | e | e
    · exact ⟨0, by rw [e]; rfl⟩
    · exact ⟨1, by rw [e]; rfl⟩
    · exact ⟨2, by rw [e]; rfl⟩
    · exact ⟨4, by rw [e]; rfl⟩
    · rw [e] at h0; exact absurd h0 (by decide)
  have la : (alt ((a : Int) + 1) ((b : Int) + 1) (at2 T a b).toNat).length = (at2 T a b).toNat := alt_length _ _ _
  have g0 : (h ++ alt ((a : Int) + 1) ((b : Int) + 1) (at2 T a b).toNat).getD h.length 0 = (a : Int) + 1 := by
    rw [List.getD_eq_getElem?_getD, List.getElem?_append_right (Nat.le_refl _), Nat.sub_self, em, alt_succ]; rfl
  have g1 : (h ++ alt ((a : Int) + 1) ((b : Int) + 1) (at2 T a b).toNat).getD (h.length + 1) 0 = (b : Int) + 1 := by
    rw [List.getD_eq_getElem?_getD, List.getElem?_append_right (by omega), show h.length + 1 - h.length = 1 by omega, em, alt_succ, alt_succ]; rfl
  have d1 : (h ++ alt ((a : Int) + 1) ((b : Int) + 1) (at2 T a b).toNat).drop h.length = alt ((a : Int) + 1) ((b : Int) + 1) (at2 T a b).toNat := List.drop_left
  have t1 : (alt ((a : Int) + 1) ((b : Int) + 1) (at2 T a b).toNat).take (at2 T a b).toNat = alt ((a : Int) + 1) ((b : Int) + 1) (at2 T a b).toNat := List.take_of_length_le (by rw [la]; exact Nat.le_refl _)
  have d2 : (h ++ alt ((a : Int) + 1) ((b : Int) + 1) (at2 T a b).toNat).drop (h.length + (at2 T a b).toNat) = [] := List.drop_eq_nil_of_le (by rw [List.length_append, la]; exact Nat.le_refl _)
  rw [mv_turn, g0, g1, ix_succ, ix_succ, if_pos ⟨by rw [List.length_append, la, em]; omega, fun z => ne (by omega)⟩, d1, t1, if_pos ⟨by omega, rfl⟩, d2, List.append_nil, List.take_left]
theorem fin_mv {T : Mat} (ht : Tab T) {h : List Int} {i j : Nat} (hi : i < T.length) (hj : j < T.length) (ne : i ≠ j) (h0 : 0 < at2 T i j) :
    mv T (h ++ (alt ((i : Int) + 1) ((j : Int) + 1) (at2 T i j).toNat).reverse) (.turn h.length) = some (h ++ (alt ((j : Int) + 1) ((i : Int) + 1) (at2 T i j).toNat).reverse) := by
  have sy := ht.sy i j hi hj
  rcases alt_rev ht hi hj ne h0 with ⟨a, b⟩ | ⟨a, b⟩
  · rw [a, b]; exact turn_at ht hi hj ne h0
  · rw [a, b]
    have := turn_at ht (h := h) hj hi (fun z => ne z.symm) (by rw [← sy]; exact h0)
    rw [← sy] at this
    exact this
theorem bl_succ {T : Mat} {n : Nat} {w : List Int} {i j : Nat} (hl : w.getLastD 0 = (i : Int) + 1) (ne : i ≠ j) : bl T (n + 1) w ((j : Int) + 1) =
    ((mv T (blS (bl T n) w.length ((i : Int) + 1) ((j : Int) + 1) (w, []) (at2 T i j).toNat).1 (.turn (w.length - (at2 T i j).toNat))).getD (blS (bl T n) w.length ((i : Int) + 1) ((j : Int) + 1) (w, []) (at2 T i j).toNat).1,
      (blS (bl T n) w.length ((i : Int) + 1) ((j : Int) + 1) (w, []) (at2 T i j).toNat).2 ++ [.turn (w.length - (at2 T i j).toNat)]) := by
  show (if w.getLastD 0 = (j : Int) + 1 then (w, []) else _) = _
  rw [hl, if_neg (fun z => ne (by omega)), ix_succ, ix_succ]
theorem ip_all {T : Mat} (ht : Tab T) {n : Nat} (ih : ∀ {w : List Int} {j : Nat}, Bq T w j → sz w ((j : Int) + 1) < n → Br T w j (bl T n w ((j : Int) + 1))) {w : List Int} {i j : Nat} (hw : Wd T.length w) (hs : Sh T w) (hl : w.getLastD 0 = (i : Int) + 1) (hi : i < T.length) (hj : j < T.length) (ne : i ≠ j) (hn : 2 * w.length < n)
    (bm : (at2 T i j).toNat ≤ w.length) (lns : ∀ p, p ≤ (at2 T i j).toNat → LN T (w ++ alt ((i : Int) + 1) ((j : Int) + 1) p) (w.length - p)) :
    ∀ p, p ≤ (at2 T i j).toNat → Ip T w i j p (blS (bl T n) w.length ((i : Int) + 1) ((j : Int) + 1) (w, []) p)
  | 0, _ => ⟨rfl, ⟨w, by show w = w ++ [].reverse; rw [List.reverse_nil, List.append_nil], rfl, hw, by show _ = row T (w ++ []); rw [List.append_nil]⟩, .inl ⟨rfl, rfl⟩⟩
  | p + 1, hp => by
    have I := ip_all ht ih hw hs hl hi hj ne hn bm lns p (by omega)
    generalize hsd : blS (bl T n) w.length ((i : Int) + 1) ((j : Int) + 1) (w, []) p = s at I
    obtain ⟨q, lq⟩ := I.head ht hw hi hj (by omega) (lns p (by omega)) (lns (p + 1) hp)
    show Ip T w i j (p + 1) (((bl T n) ((blS (bl T n) w.length ((i : Int) + 1) ((j : Int) + 1) (w, []) p).1.take (w.length - p)) (if p % 2 = 0 then ((i : Int) + 1) else ((j : Int) + 1))).1 ++ (blS (bl T n) w.length ((i : Int) + 1) ((j : Int) + 1) (w, []) p).1.drop (w.length - p), (blS (bl T n) w.length ((i : Int) + 1) ((j : Int) + 1) (w, []) p).2 ++ ((bl T n) ((blS (bl T n) w.length ((i : Int) + 1) ((j : Int) + 1) (w, []) p).1.take (w.length - p)) (if p % 2 = 0 then ((i : Int) + 1) else ((j : Int) + 1))).2)
    rw [xp_eq, hsd]
    have p0 : p = 0 → s.1.take (w.length - p) = w ∧ xp i j p = i := fun z => by
      subst z
      have : (w, []) = s := hsd
      subst this
      exact ⟨by rw [Nat.sub_zero, List.take_length], rfl⟩
    have szq : sz (s.1.take (w.length - p)) ((xp i j p : Nat) + 1) < n := by
      unfold sz
      rw [lq]
      by_cases c : p = 0
      · obtain ⟨e1, e2⟩ := p0 c
        rw [e1, e2, hl, if_pos rfl]
        omega
      · split <;> omega
    refine I.next ht hw hi hj (by omega) (ih q szq) fun z => ?_
    obtain ⟨e1, e2⟩ := p0 z
    rw [e1, e2, bl_same hl]
theorem bl_ok {T : Mat} (ht : Tab T) : ∀ (n : Nat) {w : List Int} {j : Nat}, Bq T w j → sz w ((j : Int) + 1) < n → Br T w j (bl T n w ((j : Int) + 1))
  | 0, w, j, _, h => absurd h (Nat.not_lt_zero _)
  | n + 1, w, j, q, h => by
    obtain ⟨v, i, hi, ew, hl, ni⟩ := q.own ht
    by_cases c : i = j
    · subst c
      rw [bl_same hl]
      exact ⟨rfl, ⟨v, ew⟩, Nat.zero_le _⟩
    · obtain ⟨b0, bm, lns⟩ := two_at ht q.hw q.sh hi q.hj c ni q.lo
      have hn : 2 * w.length < n := by
        unfold sz at h
        rw [hl, if_neg (fun z => c (by omega))] at h
        omega
      have I := ip_all ht (fun {w j} => bl_ok ht n (w := w) (j := j)) q.hw q.sh hl hi q.hj c hn bm lns (at2 T i j).toNat (Nat.le_refl _)
      rw [bl_succ hl c]
      generalize blS (bl T n) w.length ((i : Int) + 1) ((j : Int) + 1) (w, []) (at2 T i j).toNat = s at I
      obtain ⟨h1, e1, l1, w1, r1⟩ := I.ex
      have hmv : mv T s.1 (.turn (w.length - (at2 T i j).toNat)) = some (h1 ++ (alt ((j : Int) + 1) ((i : Int) + 1) (at2 T i j).toNat).reverse) := by
        rw [e1, ← l1]; exact fin_mv ht hi q.hj c b0
      obtain ⟨m, em⟩ := alt_pos ht hi q.hj c b0
      refine ⟨?_, ⟨h1 ++ (alt ((i : Int) + 1) ((j : Int) + 1) m).reverse, ?_⟩, ?_⟩
      · show Ws T w (s.2 ++ [.turn (w.length - (at2 T i j).toNat)]) ((mv T s.1 (.turn (w.length - (at2 T i j).toNat))).getD s.1)
        rw [hmv]
        exact I.ws.app ⟨_, _, rfl, hmv, rfl⟩
      · show (mv T s.1 (.turn (w.length - (at2 T i j).toNat))).getD s.1 = _
        rw [hmv]
        show h1 ++ (alt ((j : Int) + 1) ((i : Int) + 1) (at2 T i j).toNat).reverse = _
        rw [em, alt_succ, List.reverse_cons, List.append_assoc]
      · show 2 * (s.2 ++ [Deed.turn (w.length - (at2 T i j).toNat)]).length ≤ _
        rw [List.length_append]
        show 2 * (s.2.length + 1) ≤ _
        rcases I.few with ⟨z, _⟩ | ⟨_, z⟩
        · omega
        · have : 2 ^ (w.length - (at2 T i j).toNat + 1) = 2 ^ (w.length - (at2 T i j).toNat) * 2 := Nat.pow_succ ..
          have := Nat.two_pow_pos (w.length - (at2 T i j).toNat)
          omega
end BW
set_option maxHeartbeats 1000000
namespace BW
open PySem L2 DL
def Wo (T : Mat) : List Int → List Deed → List Int → Prop
  | w, [], v => v = w
  | w, e :: r, v => ∃ k u, (e = .turn k ∨ e = .out k) ∧ mv T w e = some u ∧ Wo T u r v
theorem Wo.app {T : Mat} : ∀ {es fs : List Deed} {w u v : List Int}, Wo T w es u → Wo T u fs v → Wo T w (es ++ fs) v
  | [], fs, w, u, v, h, g => by
    have h : u = w := h
    subst h
    exact g
  | e :: r, fs, w, u, v, ⟨k, x, a, b, c⟩, g => ⟨k, x, a, b, Wo.app c g⟩
theorem Ws.wo {T : Mat} : ∀ {es : List Deed} {w v : List Int}, Ws T w es v → Wo T w es v
  | [], w, v, h => h
  | e :: r, w, v, ⟨k, x, a, b, c⟩ => ⟨k, x, .inl a, by rw [a]; exact b, Ws.wo c⟩
theorem mv_out_at {T : Mat} {h z : List Int} {a : Int} : mv T (h ++ [a] ++ (a :: z)) (.out h.length) = some (h ++ z) := by
  have e : h ++ [a] ++ (a :: z) = h ++ (a :: a :: z) := by rw [List.append_assoc]; rfl
  rw [e, mv_out]
  have g0 : (h ++ (a :: a :: z)).getD h.length 0 = a := by rw [List.getD_eq_getElem?_getD, List.getElem?_append_right (Nat.le_refl _), Nat.sub_self]; rfl
  have g1 : (h ++ (a :: a :: z)).getD (h.length + 1) 0 = a := by rw [List.getD_eq_getElem?_getD, List.getElem?_append_right (by omega), show h.length + 1 - h.length = 1 by omega]; rfl
  rw [g0, g1, if_pos ⟨by rw [List.length_append]; simp, rfl⟩, List.take_left]
  congr 2
  rw [show h ++ a :: a :: z = (h ++ [a, a]) ++ z by rw [List.append_assoc]; rfl, show h.length + 2 = (h ++ [a, a]).length by rw [List.length_append]; rfl, List.drop_left]
def tsStep (T : Mat) (s : List Deed × List Int) (a : Int) : List Deed × List Int :=
  if a ∈ fall (row T s.2) then (s.1 ++ ((bl T 40 s.2 a).2 ++ [.out ((bl T 40 s.2 a).1.length - 1)]), (bl T 40 s.2 a).1.take ((bl T 40 s.2 a).1.length - 1)) else (s.1, s.2 ++ [a])
structure Tq (T : Mat) (u : List Int) (s : List Deed × List Int) : Prop where
  wd : Wd T.length s.2
  sh : Sh T s.2
  rw_ : row T s.2 = row T u
  le : s.2.length ≤ u.length
  few : s.1.length < 2 ^ u.length
  led : ∀ z, Wo T (u ++ z) s.1 (s.2 ++ z)
theorem Tq.nil {T : Mat} : Tq T [] ([], []) := by
  refine ⟨fun a ha => (nomatch ha), ?_, rfl, Nat.le_refl _, by decide, fun z => rfl⟩
  obtain ⟨k, hk, h0⟩ := LN.has (T := T) (w := []) fun a ha => (nomatch ha)
  have : k = 0 := by have : k ≤ 0 := h0; omega
  subst this
  exact hk
theorem Tq.bq {T : Mat} {u : List Int} {s : List Deed × List Int} (q : Tq T u s) {i : Nat} (hi : i < T.length) (c : ((i : Int) + 1) ∈ fall (row T s.2)) (hl : u.length ≤ 16) : Bq T s.2 i ∧ sz s.2 ((i : Int) + 1) < 40 := by
  refine ⟨⟨hi, q.wd, q.sh, (mem_fall (by rw [row_length]; exact hi)).mp c⟩, ?_⟩
  have := q.le
  unfold sz
  split <;> omega
theorem Tq.step {T : Mat} (ht : Tab T) {u : List Int} {s : List Deed × List Int} (q : Tq T u s) {i : Nat} (hi : i < T.length) (hl : u.length ≤ 16) : Tq T (u ++ [(i : Int) + 1]) (tsStep T s ((i : Int) + 1)) := by
  have lu : (u ++ [(i : Int) + 1]).length = u.length + 1 := by rw [List.length_append]; rfl
  have rs : row T (s.2 ++ [(i : Int) + 1]) = row T (u ++ [(i : Int) + 1]) := row_app q.rw_
  have p2 : 2 ^ (u.length + 1) = 2 ^ u.length * 2 := Nat.pow_succ ..
  unfold tsStep
  by_cases c : ((i : Int) + 1) ∈ fall (row T s.2)
  · rw [if_pos c]
    obtain ⟨b, szb⟩ := q.bq hi c hl
    have br := bl_ok ht 40 b szb
    generalize bl T 40 s.2 ((i : Int) + 1) = r at br
    obtain ⟨v, ev⟩ := br.last
    obtain ⟨a1, a2, a3⟩ := br.ws.all ht q.wd
    have lv : r.1.length - 1 = v.length := by rw [ev, List.length_append]; rfl
    have tv : r.1.take (r.1.length - 1) = v := by rw [lv, ev, List.take_left]
    have wv : Wd T.length v := fun x hx => a1 x (by rw [ev]; exact List.mem_append_left _ hx)
    have shr : Sh T (v ++ [(i : Int) + 1]) := by
      have := q.sh.cong q.wd a1 a3.symm
      rw [← a2, ev] at this
      exact this
    have pl : 2 ^ s.2.length ≤ 2 ^ u.length := Nat.pow_le_pow_right (by decide) q.le
    refine ⟨?_, ?_, ?_, ?_, ?_, fun z => ?_⟩
    · show Wd T.length (r.1.take (r.1.length - 1)); rw [tv]; exact wv
    · show Sh T (r.1.take (r.1.length - 1)); rw [tv]; exact (Sh.last ht hi wv shr).2
    · show row T (r.1.take (r.1.length - 1)) = _
      rw [tv, ← rs, ← row_undo ht hi (w := v), ← ev]
      exact row_app a3
    · show (r.1.take (r.1.length - 1)).length ≤ _
      rw [tv, lu]
      have := q.le
      have : v.length + 1 = s.2.length := by rw [← a2, ev, List.length_append]; rfl
      omega
    · show (s.1 ++ (r.2 ++ [Deed.out (r.1.length - 1)])).length < _
      rw [List.length_append, List.length_append, lu]
      show s.1.length + (r.2.length + 1) < _
      have := q.few
      have := br.few
      omega
    · show Wo T (u ++ [(i : Int) + 1] ++ z) (s.1 ++ (r.2 ++ [.out (r.1.length - 1)])) (r.1.take (r.1.length - 1) ++ z)
      rw [tv, lv, List.append_assoc u]
      refine (q.led ([(i : Int) + 1] ++ z)).app ?_
      refine Wo.app (Ws.suf (z := [(i : Int) + 1] ++ z) br.ws).wo ?_
      rw [ev]
      exact ⟨v.length, v ++ z, .inr rfl, mv_out_at, rfl⟩
  · rw [if_neg c]
    have m := LN.more ht q.wd q.sh hi
    rw [if_neg c] at m
    refine ⟨wd_app q.wd (wd_one hi), ?_, rs, ?_, ?_, fun z => ?_⟩
    · show LN T (s.2 ++ [(i : Int) + 1]) (s.2 ++ [(i : Int) + 1]).length
      rw [List.length_append]
      exact m
    · show (s.2 ++ [(i : Int) + 1]).length ≤ _
      rw [List.length_append, lu]
      have := q.le
      show s.2.length + 1 ≤ _
      omega
    · show s.1.length < _
      rw [lu]
      have := q.few
      omega
    · show Wo T (u ++ [(i : Int) + 1] ++ z) s.1 (s.2 ++ [(i : Int) + 1] ++ z)
      rw [List.append_assoc, List.append_assoc]
      exact q.led _
end BW
set_option maxHeartbeats 1000000
set_option autoImplicit false
namespace BW
open PySem L2 DL
def tbS (T : Mat) (w v : List Int) : Nat → List Int × List Deed
  | 0 => (w, [])
  | p + 1 => ((bl T 40 ((tbS T w v p).1.take (v.length - p)) (v.getD (v.length - p - 1) 0)).1, (tbS T w v p).2 ++ (bl T 40 ((tbS T w v p).1.take (v.length - p)) (v.getD (v.length - p - 1) 0)).2)
def tb (T : Mat) (w v : List Int) : List Deed := (tbS T w v v.length).2
theorem Sh.pre {T : Mat} (ht : Tab T) : ∀ (n : Nat) {z : List Int}, z.length = n → ∀ {w : List Int}, Wd T.length w → Wd T.length z → Sh T (w ++ z) → Sh T w
  | 0, z, hn, w, hw, hz, h => by
    have : z = [] := List.eq_nil_of_length_eq_zero hn
    subst this
    rw [List.append_nil] at h
    exact h
  | n + 1, z, hn, w, hw, hz, h => by
    rcases snoc_cases hz with e | ⟨y, i, hi, hy, e⟩
    · rw [e] at hn; cases hn
    · subst e
      rw [← List.append_assoc] at h
      rw [List.length_append, List.length_singleton] at hn
      exact Sh.pre ht n (by omega) hw hy (Sh.last ht hi (wd_app hw hy) h).2
structure Tb (T : Mat) (w v : List Int) (p : Nat) (s : List Int × List Deed) : Prop where
  wd : Wd T.length (s.1.take (v.length - p))
  sh : Sh T (s.1.take (v.length - p))
  rw_ : row T (s.1.take (v.length - p)) = row T (v.take (v.length - p))
  ln : (s.1.take (v.length - p)).length = v.length - p
  few : 2 * s.2.length + 2 ^ (v.length - p + 1) ≤ 2 ^ (v.length + 1)
  led : Ws T w s.2 (s.1.take (v.length - p) ++ v.drop (v.length - p))
structure Tp (T : Mat) (w v : List Int) : Prop where
  hw : Wd T.length w
  hv : Wd T.length v
  sw : Sh T w
  sv : Sh T v
  al : row T w = row T v
theorem Tp.len {T : Mat} {w v : List Int} (h : Tp T w v) : w.length = v.length := (h.sw.cong h.hw h.hv h.al).uniq h.sv
theorem Tp.zero {T : Mat} {w v : List Int} (h : Tp T w v) : Tb T w v 0 (w, []) := by
  have l := h.len
  have e : (w, ([] : List Deed)).1.take (v.length - 0) = w := by rw [Nat.sub_zero, ← l]; exact List.take_length
  have e2 : v.take (v.length - 0) = v := by rw [Nat.sub_zero]; exact List.take_length
  have e3 : v.drop (v.length - 0) = [] := by rw [Nat.sub_zero]; exact List.drop_length
  refine ⟨by rw [e]; exact h.hw, by rw [e]; exact h.sw, by rw [e, e2]; exact h.al, by rw [e, l]; rfl, ?_, ?_⟩
  · show 2 * 0 + 2 ^ (v.length - 0 + 1) ≤ _
    rw [Nat.sub_zero]
    omega
  · rw [e, e3, List.append_nil]; rfl
theorem Tp.at_ {T : Mat} {w v : List Int} (h : Tp T w v) {p : Nat} (hp : p < v.length) : ∃ j : Nat, j < T.length ∧ v[v.length - p - 1]? = some ((j : Int) + 1) ∧ v.getD (v.length - p - 1) 0 = (j : Int) + 1 ∧ v.take (v.length - p) = v.take (v.length - (p + 1)) ++ [(j : Int) + 1] ∧ v.drop (v.length - (p + 1)) = ((j : Int) + 1) :: v.drop (v.length - p) := by
  have hg : v[v.length - p - 1]? = some (v[v.length - p - 1]'(by omega)) := List.getElem?_eq_getElem _
  have wa := h.hv _ (List.getElem_mem (by omega : v.length - p - 1 < v.length))
  obtain ⟨j, ej⟩ : ∃ j : Nat, v[v.length - p - 1]'(by omega) = (j : Int) + 1 := ⟨(v[v.length - p - 1]'(by omega) - 1).toNat, by omega⟩
  rw [ej] at hg wa
  have e1 : v.length - (p + 1) = v.length - p - 1 := by omega
  have e2 : v.length - p = v.length - p - 1 + 1 := by omega
  refine ⟨j, by omega, hg, by rw [List.getD_eq_getElem?_getD, hg]; rfl, ?_, ?_⟩
  · rw [e1]
    conv => lhs; rw [e2]
    rw [List.take_succ, hg]; rfl
  · rw [e1, List.drop_eq_getElem_cons (by omega : v.length - p - 1 < v.length), ej, ← e2]
theorem Tb.bq {T : Mat} (ht : Tab T) {w v : List Int} (h : Tp T w v) {p j : Nat} {s : List Int × List Deed} (I : Tb T w v p s) (hp : p < v.length) (hj : j < T.length) (et : v.take (v.length - p) = v.take (v.length - (p + 1)) ++ [(j : Int) + 1]) (hl : v.length ≤ 16) :
    Bq T (s.1.take (v.length - p)) j ∧ sz (s.1.take (v.length - p)) ((j : Int) + 1) < 40 := by
  have wt : ∀ n, Wd T.length (v.take n) := fun n a ha => h.hv a (List.mem_of_mem_take ha)
  have wdp : ∀ n, Wd T.length (v.drop n) := fun n a ha => h.hv a (List.mem_of_mem_drop ha)
  have sp : Sh T (v.take (v.length - p)) := Sh.pre ht _ rfl (wt _) (wdp (v.length - p)) (by rw [List.take_append_drop]; exact h.sv)
  refine ⟨⟨hj, I.wd, I.sh, ?_⟩, ?_⟩
  · rw [I.rw_, et]
    rw [et] at sp
    exact (Sh.last ht hj (wt _) sp).1
  · unfold sz
    rw [I.ln]
    split <;> omega
theorem Tb.next {T : Mat} (ht : Tab T) {w v : List Int} (h : Tp T w v) {p : Nat} {s : List Int × List Deed} (I : Tb T w v p s) (hp : p < v.length) (hl : v.length ≤ 16) :
    Tb T w v (p + 1) ((bl T 40 (s.1.take (v.length - p)) (v.getD (v.length - p - 1) 0)).1, s.2 ++ (bl T 40 (s.1.take (v.length - p)) (v.getD (v.length - p - 1) 0)).2) := by
  obtain ⟨j, hj, _, eg, et, ed⟩ := h.at_ hp
  obtain ⟨b, szb⟩ := I.bq ht h hp hj et hl
  have br := bl_ok ht 40 b szb
  rw [eg]
  generalize bl T 40 (s.1.take (v.length - p)) ((j : Int) + 1) = r at br
  obtain ⟨x, ex⟩ := br.last
  obtain ⟨a1, a2, a3⟩ := br.ws.all ht I.wd
  have lx : x.length = v.length - (p + 1) := by
    have := I.ln
    have : x.length + 1 = r.1.length := by rw [ex, List.length_append]; rfl
    omega
  have tx : r.1.take (v.length - (p + 1)) = x := by rw [ex, ← lx, List.take_left]
  have wx : Wd T.length x := fun y hy => a1 y (by rw [ex]; exact List.mem_append_left _ hy)
  have shr : Sh T (x ++ [(j : Int) + 1]) := by
    have := I.sh.cong I.wd a1 a3.symm
    rw [← a2, ex] at this
    exact this
  have lf := br.few2
  rw [I.ln] at lf
  refine ⟨by rw [tx]; exact wx, by rw [tx]; exact (Sh.last ht hj wx shr).2, ?_, by rw [tx]; exact lx, ?_, ?_⟩
  · rw [tx]
    refine row_cancel ht hj ?_
    rw [← ex, ← et, a3, I.rw_]
  · show 2 * (s.2 ++ r.2).length + 2 ^ (v.length - (p + 1) + 1) ≤ _
    rw [List.length_append, show v.length - (p + 1) + 1 = v.length - p by omega]
    have := I.few
    have : 2 ^ (v.length - p + 1) = 2 ^ (v.length - p) * 2 := Nat.pow_succ ..
    omega
  · show Ws T w (s.2 ++ r.2) (r.1.take (v.length - (p + 1)) ++ v.drop (v.length - (p + 1)))
    rw [tx, ed]
    have e : x ++ ((j : Int) + 1) :: v.drop (v.length - p) = r.1 ++ v.drop (v.length - p) := by rw [ex, List.append_assoc]; rfl
    rw [e]
    exact I.led.app (Ws.suf br.ws)
theorem Tp.all {T : Mat} (ht : Tab T) {w v : List Int} (h : Tp T w v) (hl : v.length ≤ 16) : ∀ p, p ≤ v.length → Tb T w v p (tbS T w v p)
  | 0, _ => h.zero
  | p + 1, hp => (Tp.all ht h hl p (by omega)).next ht h (by omega) hl
theorem Tp.end_ {T : Mat} (ht : Tab T) {w v : List Int} (h : Tp T w v) (hl : v.length ≤ 16) : Ws T w (tb T w v) v := by
  have I := (h.all ht hl v.length (Nat.le_refl _)).led
  rw [Nat.sub_self, List.take_zero, List.drop_zero, List.nil_append] at I
  exact I
end BW
namespace DL
open PySem L2
open PySem.W (Frag)
@[reducible] def Sl.plain : Sl → Bool
  | .own _ _ => false
  | _ => true
end DL
namespace BW
open PySem L2 DL
def goB (w : List Int) (j : Nat) : Bool := decide (j + 1 < w.length ∧ w.getD j 0 = w.getD (j + 1) 0)
def tuB (T : Mat) (w : List Int) (j : Nat) : Bool := (mv T w (.turn j)).isSome
end BW
namespace DL
open PySem PySem.Spec PyProof.Rows L2
open PySem.W (Frag)
def lookS (l : List (PySem.Str × Int)) (x : PySem.Str) : Option Int := (l.find? fun p => decide (p.1 = x)).map (·.2)
end DL
set_option maxHeartbeats 1000000
namespace DL
open PySem PySem.Spec PyProof.Rows L2
open PySem.W (Frag)
end DL
set_option maxHeartbeats 1000000
namespace BW
open PySem L2 DL
abbrev ks_NUMBERS : List (PySem.Str × Int) := [("in", 2), ("out", 1), ("turn", 1)]
def frmB : D → Bool
  | .tup (.str n :: r) => decide (lookS ks_NUMBERS n = some (r.length : Int)) && r.all D.isI
  | _ => false
def fitB (T : Mat) (w : List Int) : D → Bool
  | .tup [.str n, .int z] => if n = "out" then (decide (0 ≤ z) && goB w z.toNat) else if n = "turn" then (decide (0 ≤ z) && tuB T w z.toNat) else false
  | .tup [.str n, .int z, .int a] => if n = "in" then (decide (0 ≤ z) && (decide (z ≤ w.length) && (decide (1 ≤ a) && decide (a ≤ T.length)))) else false
  | _ => false
theorem frm_shape {d : D} (h : frmB d = true) : (∃ z a, d = .tup [.str "in", .int z, .int a]) ∨ (∃ z, d = .tup [.str "out", .int z]) ∨ ∃ z, d = .tup [.str "turn", .int z] := by
  cases d with
  | tup xs =>
    cases xs with
    | nil => cases h
    | cons x r =>
      cases x with
      | str n =>
        obtain ⟨h1, h2⟩ := Bool.and_eq_true_iff.mp (show (decide (lookS ks_NUMBERS n = some (r.length : Int)) && r.all D.isI) = true from h)
        have h1 := of_decide_eq_true h1
        have one : ∀ x : D, D.isI x = true → ∃ z, x = .int z := fun x hx => by
          cases x <;> first | exact ⟨_, rfl⟩ | cases hx
        unfold lookS at h1
        by_cases c1 : ("in" : PySem.Str) = n
        · subst c1
          have e : r.length = 2 := by
            have : (some (2 : Int)) = some (r.length : Int) := h1
            have := Option.some.inj this
            omega
          match r, e, h2 with
          | [x, y], _, h2 =>
            rw [List.all_cons, List.all_cons, Bool.and_eq_true, Bool.and_eq_true] at h2
            obtain ⟨z, rfl⟩ := one x h2.1
            obtain ⟨a, rfl⟩ := one y h2.2.1
            exact .inl ⟨z, a, rfl⟩
        · by_cases c2 : ("out" : PySem.Str) = n
          · subst c2
            have e : r.length = 1 := by
              have : (some (1 : Int)) = some (r.length : Int) := h1
              have := Option.some.inj this
              omega
            match r, e, h2 with
            | [x], _, h2 =>
              rw [List.all_cons, Bool.and_eq_true] at h2
              obtain ⟨z, rfl⟩ := one x h2.1
              exact .inr (.inl ⟨z, rfl⟩)
          · by_cases c3 : ("turn" : PySem.Str) = n
            · subst c3
              have e : r.length = 1 := by
                have : (some (1 : Int)) = some (r.length : Int) := h1
                have := Option.some.inj this
                omega
              match r, e, h2 with
              | [x], _, h2 =>
                rw [List.all_cons, Bool.and_eq_true] at h2
                obtain ⟨z, rfl⟩ := one x h2.1
                exact .inr (.inr ⟨z, rfl⟩)
            · exfalso
              rw [List.find?_cons, decide_eq_false c1, List.find?_cons, decide_eq_false c2, List.find?_cons, decide_eq_false c3] at h1
              cases h1
      | _ => cases h
  | _ => cases h
theorem fit_frm {T : Mat} {w : List Int} {d : D} (h : frmB d = false) : fitB T w d = false := by
  unfold fitB
  split
  · rename_i n z
    by_cases c1 : n = "out"
    · subst c1; cases (show true = false from h)
    · rw [if_neg c1]
      by_cases c2 : n = "turn"
      · subst c2; cases (show true = false from h)
      · rw [if_neg c2]
  · rename_i n z a
    by_cases c1 : n = "in"
    · subst c1; cases (show true = false from h)
    · rw [if_neg c1]
  · rfl
def bk (w : List Int) : Deed → Deed
  | .inn k _ => .out k
  | .out k => .inn k (w.getD k 0)
  | .turn k => .turn k
end BW
set_option maxHeartbeats 1000000
namespace DL
open PySem L2
open PySem.W (Frag)
section
variable {P : Program} {w : World} {K : Frag} {mg : PySem.Str → Option Value} {base : Heap} {k : Nat} {f : Addr} {fd : FuncData} {ps : List PySem.Str} {hm : Bool} {sp : DSp} {spX : DSpX} {x : PySem.Str}
theorem calm_ok (F : FnOk P w K mg base (L2.CX P w) k f fd ps (spDX K hm spX)) (h : ∀ ds k R, sp ds k R → spX ds k R (fun _ _ => False)) : FnOk P w K mg base CX0 k f fd ps (spD K hm sp) := by
  have key : ∀ vs H Q E, spD K hm sp vs H Q E → spDX K hm spX vs H Q (fun _ _ _ => False) := fun vs H Q E ⟨M, X0, k, ds, ws, R, h1, a, h2, h3⟩ => ⟨M, X0, k, ds, ws, R, fun _ _ => False, h1, a, h _ _ _ h2, h3, fun _ _ q => q.elim⟩
  refine ⟨fun vs H Q E q => F.len _ _ _ _ (key _ _ _ _ q), fun A outer s H args us vs Q E hr he hb hv hs => ?_⟩
  refine codeAny_mono (F.run A outer s H args us vs Q _ hr he hb hv (key _ _ _ _ hs)) fun r s' q => ?_
  cases r with
  | ok o => cases o <;> exact q
  | error e =>
    obtain ⟨_, _, _, _, _, _, _, _, _, _, _, _, z⟩ := (show L2.CX P w outer H s (fun _ _ _ => False) e s' from q)
    exact z.elim
theorem CalX.calm (F : CalX P w K mg base k x spX) (h : ∀ ds k R, sp ds k R → spX ds k R (fun _ _ => False)) : CalD P w K mg base k x false sp := by
  obtain ⟨f, fd, ps, G, hm, kp, b⟩ := F.ex
  exact ⟨f, fd, ps, calm_ok G h, hm, kp, b⟩
end
end DL
namespace BW
open PySem L2 DL
def exLT (K : PySem.W.Frag) (t : DT) : TT := fun σ H Q => ∃ c, c.K = K ∧ LT c t σ H Q
theorem PT.exT {X : Cx} {e : Expr} {K : PySem.W.Frag} {t : DT} (h : ∀ c, c.K = K → PT X e (LT c t)) : PT X e (exLT K t) := ⟨fun pins s σ H Q I ⟨c, hc, q⟩ => (h c hc).run pins s σ H Q I q⟩
abbrev t_in8 : DA := dLc (iR1 (dVar 2)) (dgN 6) dY (dIf (dTB (dOp oEq (dVar 5) (dVar 6))) (dC (.int 1)) (dC (.int 2))) [6]
theorem nest_tab {K : PySem.W.Frag} {X0 : List Addr} {n : Nat} {σ : L2.St} {H : Hp} {Q : VK} (xs : ∀ a ∈ X0, H a ≠ none) (xt : ∀ a ∈ X0, ∀ ps, H a ≠ some (.tbl ps)) (n6 : n ≤ 6) (e1 : σ[2]? = some (some (.int n))) (hl : σ.length = 8)
    (h : ∀ p qs H', Keep none X0 H H' → H p = none → (∀ q ∈ qs, H q = none) → Mx H' p qs (idM n) → Q (.ref p) H') :
    tLc (iRng1 (tCons (tVar 2) tNil)) (gName 5) tYes (exLF K t_in8) [5] σ H Q := by
  refine ⟨_, e1, n, rfl, by omega, by omega, fun D hD => ?_⟩
  rw [Int.toNat_natCast]
  refine ⟨fun i m H' => m = n - i ∧ i ≤ n ∧ ∃ qs, Keep none X0 H H' ∧ (∀ q ∈ qs, H q = none) ∧ Mx H' D qs ((List.range i).map (idr n)), ⟨n, rfl, Nat.zero_le _, [], Keep.refl.new xs hD, fun _ h => (nomatch h), ⟨upd_same, rfl, fun i q r e => by simp at e, List.nodup_nil, by simp⟩⟩, ?_⟩
  rintro i m H' ⟨rfl, hi, qs, kp, fr, mx⟩
  by_cases hlt : i < n
  · refine .inr ⟨hlt, fun H'' => ∃ qs, Keep none X0 H H'' ∧ (∀ q ∈ qs, H q = none) ∧ Mx H'' D qs ((List.range (i + 1)).map (idr n)), fun H'' ⟨qs, q⟩ => ⟨n - (i + 1), by omega, rfl, hlt, qs, q⟩, ?_⟩
    rintro x H'' ⟨rfl, rfl⟩
    refine ⟨?_, ?_⟩
    · show ((σ.set 5 none).set 5 (some (V.int (0 + (i : Int))))).set 5 none = σ.set 5 none
      rw [List.set_set, List.set_set]
    · unfold tYes
      dsimp only
      rw [if_pos rfl]
      have xs2 : ∀ a ∈ X0, H'' a ≠ none := fun a ha => by rw [kp.old a ha]; exact xs a ha
      refine ⟨⟨K, none, X0, H'', []⟩, rfl, ⟨X0, [.no, .no, .dat (.int n), .no, .no, .dat (.int (0 + (i : Int))), .no, .no], 0⟩, fun ds _ => ds = (idr n i).map .int, ?_, ?_, ?_⟩
      · refine rep_of (fun _ _ => by simp [Ml]) xs2 (fun a ha => by rw [kp.old a ha]; exact xt a ha) ?_ trivial (fun j x e => ?_) (fun j p ds e => ?_)
        · show 8 = ((σ.set 5 none).set 5 _).length
          rw [List.length_set, List.length_set, hl]
        · match j, e with
          | 0, e => cases e; trivial
          | 1, e => cases e; trivial
          | 2, e =>
            cases e
            refine ⟨.int n, ?_, .int _⟩
            show ((σ.set 5 none).set 5 _)[2]? = _
            rw [List.getElem?_set_ne (by decide), List.getElem?_set_ne (by decide)]
            exact e1
          | 3, e => cases e; trivial
          | 4, e => cases e; trivial
          | 5, e =>
            cases e
            refine ⟨.int (0 + (i : Int)), ?_, .int _⟩
            show ((σ.set 5 none).set 5 _)[5]? = _
            rw [List.getElem?_set_self (by rw [List.length_set, hl]; decide)]
          | 6, e => cases e; trivial
          | 7, e => cases e; trivial
        · have mem := List.mem_of_getElem? e
          simp at mem
      · refine ⟨_, rfl, _, rfl, by omega, by omega, ?_⟩
        rw [Int.toNat_natCast]
        refine ⟨by rw [rngD_len]; exact Nat.le_trans n6 (by decide), fun p hp => ⟨fun j acc k' => acc = ((List.range j).map fun j => if i = j then (1 : Int) else 2).map .int, rfl, ?_, ?_⟩⟩
        · rintro j d acc k' hd rfl _
          obtain ⟨hj, rfl⟩ := rngD_at hd
          refine iteT ⟨_, rfl, _, rfl, rfl, rfl, _, rfl, ?_⟩
          rw [eqvI]
          refine iteD (fun e => ?_) fun e => ?_
          · show _ = ((List.range (j + 1)).map _).map _
            rw [range_step, List.map_append, if_pos (by omega)]; rfl
          · show _ = ((List.range (j + 1)).map _).map _
            rw [range_step, List.map_append, if_neg (by omega)]; rfl
        · rintro acc k' rfl _
          rw [rngD_len]
          rfl
      · rintro ds k' rfl q H5 nl
        obtain ⟨vs, hq5, ra⟩ := nl.vals
        obtain rfl := ra.ints_v
        have kp5 : Keep none X0 H'' H5 := Keep.rep nl.rep (fun _ _ => by simp [Ml]) xs2
        have fq : H'' q = none := nl.new
        have nDq : D ≠ q := fun z => by have := mx.top; rw [z, fq] at this; cases this
        have nqs : q ∉ qs := fun z => by
          obtain ⟨j, hj⟩ := List.getElem?_of_mem z
          have hj2 : j < i := by have := (List.getElem?_eq_some_iff.mp hj).1; rw [mx.len, List.length_map, List.length_range] at this; exact this
          have := mx.row j q _ hj (by rw [List.getElem?_map, List.getElem?_range hj2]; rfl)
          rw [fq] at this
          cases this
        have d5 := kp5.at (by simp [Ml]) mx.top
        refine ⟨qs.map V.ref, d5, by rw [List.length_map, mx.len, List.length_map, List.length_range]; exact Nat.lt_of_lt_of_le (by omega : i < 6) (by decide), qs ++ [q], (kp.trans kp5).mut xs hD (.at_ d5), fun b hb => ?_, ?_⟩
        · rcases List.mem_append.mp hb with hb | hb
          · exact fr b hb
          · simp at hb
            subst hb
            exact kp.fresh (by simp [Ml]) fq
        · refine ⟨by rw [upd_same, List.map_append]; rfl, by rw [List.length_append, mx.len]; simp, fun j b r hb hr => ?_, ?_, ?_⟩
          · have nbD : b ≠ D := fun z => by
              have hb2 := List.mem_of_getElem? hb
              rcases List.mem_append.mp hb2 with h2 | h2
              · exact mx.out (z ▸ h2)
              · simp at h2
                exact nDq (z ▸ h2)
            rw [upd_ne nbD]
            rw [range_step] at hr
            have lq : qs.length = i := by rw [mx.len, List.length_map, List.length_range]
            by_cases hj : j < i
            · rw [List.getElem?_append_left (by rw [lq]; exact hj)] at hb
              rw [List.getElem?_append_left (by rw [List.length_map, List.length_range]; exact hj)] at hr
              exact kp5.at (by simp [Ml]) (mx.row j b r hb hr)
            · rw [List.getElem?_append_right (by rw [lq]; omega)] at hb
              rw [List.getElem?_append_right (by rw [List.length_map, List.length_range]; omega)] at hr
              rw [lq] at hb
              rw [List.length_map, List.length_range] at hr
              have ej : j - i = 0 := by
                have := (List.getElem?_eq_some_iff.mp hb).1
                simp at this
                omega
              rw [ej] at hb hr
              cases hb
              cases hr
              exact hq5
          · exact List.nodup_append.mpr ⟨mx.nd, by simp, fun a ha b hb => by
              simp at hb
              subst hb
              exact fun z => nqs (z ▸ ha)⟩
          · intro z
            rcases List.mem_append.mp z with z | z
            · exact mx.out z
            · simp at z
              exact nDq z
  · have e : i = n := by omega
    subst e
    exact .inl ⟨Nat.le_refl _, h D qs H' kp hD fr mx⟩
def fm (n : Nat) (f : Nat → Nat → Int) : Mat := (List.range n).map fun i => (List.range n).map fun j => f i j
structure Gd (n : Nat) (f : Nat → Nat → Int) : Prop where
  dg : ∀ i, f i i = 1
  of : ∀ i j, i ≠ j → f i j = 2 ∨ f i j = 3 ∨ f i j = 4 ∨ f i j = 6 ∨ f i j = 0
  sy : ∀ i j, f i j = f j i
theorem fm_len (n : Nat) (f : Nat → Nat → Int) : (fm n f).length = n := by unfold fm; rw [List.length_map, List.length_range]
theorem fm_row {n : Nat} {f : Nat → Nat → Int} {i : Nat} (h : i < n) : (fm n f).getD i [] = (List.range n).map fun j => f i j := by unfold fm; rw [getD_range h]
theorem fm_at {n : Nat} {f : Nat → Nat → Int} {i j : Nat} (hi : i < n) (hj : j < n) : at2 (fm n f) i j = f i j := by
  unfold at2
  rw [fm_row hi, getD_range hj]
theorem tab_fm {n : Nat} {f : Nat → Nat → Int} (n1 : 1 ≤ n) (n6 : n ≤ 6) (g : Gd n f) : Tab (fm n f) := by
  refine ⟨by rw [fm_len]; exact n1, by rw [fm_len]; exact n6, fun i hi => ?_, fun i hi => ?_, fun i j hi hj ne => ?_, fun i j hi hj => ?_⟩
  · rw [fm_len] at hi ⊢
    rw [fm_row hi, List.length_map, List.length_range]
  · rw [fm_len] at hi
    rw [fm_at hi hi]
    exact g.dg i
  · rw [fm_len] at hi hj
    rw [fm_at hi hj]
    exact g.of i j ne
  · rw [fm_len] at hi hj
    rw [fm_at hi hj, fm_at hj hi]
    exact g.sy i j
theorem fm_id (n : Nat) : idM n = fm n fun i j => if i = j then 1 else 2 := rfl
theorem gd_id (n : Nat) : Gd n fun i j => if i = j then 1 else 2 := ⟨fun i => if_pos rfl, fun i j h => .inl (if_neg h), fun i j => by

  by_cases h : i = j
  · rw [if_pos h, if_pos h.symm]
  · rw [if_neg h, if_neg (fun z => h z.symm)]⟩
def fsw (f : Nat → Nat → Int) (a b : Nat) (v : Int) : Nat → Nat → Int := fun i j => if (i = a ∧ j = b) ∨ (i = b ∧ j = a) then v else f i j
theorem gd_sw {n : Nat} {f : Nat → Nat → Int} (g : Gd n f) {a b : Nat} (ne : a ≠ b) {v : Int} (hv : v = 2 ∨ v = 3 ∨ v = 4 ∨ v = 6 ∨ v = 0) : Gd n (fsw f a b v) := by
  refine ⟨fun i => ?_, fun i j h => ?_, fun i j => ?_⟩
  · unfold fsw
    rw [if_neg (by omega)]
    exact g.dg i
  · unfold fsw
    split
    · exact hv
    · exact g.of i j h
  · unfold fsw
    by_cases h : (i = a ∧ j = b) ∨ (i = b ∧ j = a)
    · rw [if_pos h, if_pos (by omega)]
    · rw [if_neg h, if_neg (by omega)]
      exact g.sy i j
theorem fm_sw {n : Nat} {f : Nat → Nat → Int} {a b : Nat} {v : Int} (ha : a < n) (hb : b < n) (ne : a ≠ b) : ((fm n f).set a (((fm n f).getD a []).set b v)).set b (((fm n f).getD b []).set a v) = fm n (fsw f a b v) := by
  have r1 : ((fm n f).getD a []).set b v = (List.range n).map fun j => fsw f a b v a j := by
    rw [fm_row ha]
    refine set_range fun j hj => ?_
    unfold fsw
    by_cases e : j = b
    · rw [if_pos e, if_pos (.inl ⟨rfl, e⟩)]
    · rw [if_neg e, if_neg (by omega)]
  have r2 : ((fm n f).getD b []).set a v = (List.range n).map fun j => fsw f a b v b j := by
    rw [fm_row hb]
    refine set_range fun j hj => ?_
    unfold fsw
    by_cases e : j = a
    · rw [if_pos e, if_pos (.inr ⟨rfl, e⟩)]
    · rw [if_neg e, if_neg (by omega)]
  rw [r1, r2]
  show (((List.range n).map fun i => (List.range n).map fun j => f i j).set a _).set b _ = _
  rw [set_range (g' := fun i => if i = a then (List.range n).map (fun j => fsw f a b v a j) else (List.range n).map (fun j => f i j)) (fun j _ => rfl)]
  refine set_range fun i hi => ?_
  by_cases e : i = b
  · rw [if_pos e, e]
  · rw [if_neg e]
    by_cases e2 : i = a
    · rw [if_pos e2, e2]
    · rw [if_neg e2]
      refine List.map_congr_left fun j hj => ?_
      unfold fsw
      rw [if_neg (by omega)]
abbrev tSw (K : PySem.W.Frag) : TS := tAsg (tTup (tCons (tVar 7) (tCons (tVar 7) tNil))) (gTup K 2 (gCons (gSub (tOp (rIxL K) (tVar 4) (tVar 5)) (tVar 6) rSetL) (gCons (gSub (tOp (rIxL K) (tVar 4) (tVar 6)) (tVar 5) rSetL) gNil)))
theorem swap_tab {K : PySem.W.Frag} {σ : L2.St} {H : Hp} {D : Ends} {p : Addr} {qs : List Addr} {n : Nat} {f : Nat → Nat → Int} {a b : Nat} {v x y : Int} (hx : x = a) (hy : y = b) (mx : Mx H p qs (fm n f)) (ha : a < n) (hb : b < n) (ne : a ≠ b) (e4 : σ[4]? = some (some (V.ref p))) (e5 : σ[5]? = some (some (V.int x))) (e6 : σ[6]? = some (some (V.int y))) (e7 : σ[7]? = some (some (V.int v)))
    (h : ∀ H', (∀ x o, x ∉ qs → H x = some o → H' x = some o) → TbK H H' → Mx H' p qs (fm n (fsw f a b v)) → D.nx σ H') : tSw K D σ H := by
  subst hx hy
  have lq : qs.length = n := by rw [mx.len, fm_len]
  have ln := fm_len n f
  obtain ⟨q1, hq1⟩ : ∃ q, qs[a]? = some q := ⟨qs[a]'(by omega), List.getElem?_eq_getElem _⟩
  obtain ⟨q2, hq2⟩ : ∃ q, qs[b]? = some q := ⟨qs[b]'(by omega), List.getElem?_eq_getElem _⟩
  have m1 : (fm n f)[a]? = some ((fm n f).getD a []) := getD_get (by omega)
  have m2 : (fm n f)[b]? = some ((fm n f).getD b []) := getD_get (by omega)
  have l1 : ((fm n f).getD a []).length = n := by rw [fm_row ha, List.length_map, List.length_range]
  have l2 : ((fm n f).getD b []).length = n := by rw [fm_row hb, List.length_map, List.length_range]
  refine ⟨_, e7, _, e7, by show 2 ≤ sizeLine; decide, fun T hT => ⟨T, [.int v, .int v], rfl, SqT.of upd_same, rfl, _, _, rfl, ?_⟩⟩
  have mxT : Mx (upd H T (.tup [V.int v, V.int v])) p qs (fm n f) := mx.keepT hT
  have hset1 := mxT.set hq1 (((fm n f).getD a []).set b v)
  refine ⟨_, e4, _, e5, p, qs.map V.ref, _, .ref q1, rfl, rfl, SqL.of mxT.top, atI_nat (by rw [List.getElem?_map, hq1]; rfl), ?_⟩
  refine ⟨_, e6, q1, ((fm n f).getD a []).map V.int, _, b, rfl, rfl, mxT.row a q1 _ hq1 m1, ixN_nat (j := b) (by rw [List.length_map, l1]; exact hb), ?_⟩
  refine ⟨_, _, rfl, ?_⟩
  have e1 : (((fm n f).getD a []).map V.int).set b (V.int v) = (((fm n f).getD a []).set b v).map V.int := by rw [List.map_set]
  rw [e1]
  refine ⟨_, e4, _, e6, p, qs.map V.ref, _, .ref q2, rfl, rfl, SqL.of hset1.top, atI_nat (j := b) (by rw [List.getElem?_map, hq2]; rfl), ?_⟩
  have m2' : ((fm n f).set a (((fm n f).getD a []).set b v))[b]? = some ((fm n f).getD b []) := by rw [List.getElem?_set_ne ne]; exact m2
  refine ⟨_, e5, q2, ((fm n f).getD b []).map V.int, _, a, rfl, rfl, hset1.row b q2 _ hq2 m2', ixN_nat (by rw [List.length_map, l2]; exact ha), rfl, ?_⟩
  have e2 : (((fm n f).getD b []).map V.int).set a (V.int v) = (((fm n f).getD b []).set a v).map V.int := by rw [List.map_set]
  rw [e2]
  refine h _ (fun x o hx ex => ?_) ((TbK.new hT).trans ((TbK.at_ (mxT.row a q1 _ hq1 m1)).trans (TbK.at_ (hset1.row b q2 _ hq2 m2')))) ?_
  · rw [upd_ne (fun z => hx (by rw [z]; exact List.mem_of_getElem? hq2)), upd_ne (fun z => hx (by rw [z]; exact List.mem_of_getElem? hq1)), upd_ne (ne_of_none ex hT)]
    exact ex
  · have := hset1.set hq2 (((fm n f).getD b []).set a v)
    rw [fm_sw ha hb ne] at this
    exact this
structure S8 (m : Mc) (n : Nat) (way : Int) (p : Addr) (σ : L2.St) : Prop where
  len : σ.length = 8
  e0 : σ[0]? = some (some (.ref m.pm))
  e2 : σ[2]? = some (some (.int n))
  e3 : σ[3]? = some (some (.int way))
  e4 : σ[4]? = some (some (.ref p))
  kd : m.kd = none
theorem S8.set {m : Mc} {n : Nat} {way : Int} {p : Addr} {σ : L2.St} (h : S8 m n way p σ) {i : Nat} (hi : 5 ≤ i) (v : Option V) : S8 m n way p (σ.set i v) :=
  ⟨by rw [List.length_set]; exact h.len, by rw [List.getElem?_set_ne (by omega)]; exact h.e0, by rw [List.getElem?_set_ne (by omega)]; exact h.e2, by rw [List.getElem?_set_ne (by omega)]; exact h.e3, by rw [List.getElem?_set_ne (by omega)]; exact h.e4, h.kd⟩
theorem rep8 {K : PySem.W.Frag} {m : Mc} {n : Nat} {way a b : Int} {p : Addr} {X0 : List Addr} {σ : L2.St} {H : Hp} {k : Nat} (xm : ∀ a ∈ X0, a ∉ Ml (some m)) (xs : ∀ a ∈ X0, H a ≠ none) (xt : ∀ a ∈ X0, ∀ ps, H a ≠ some (.tbl ps)) (h : S8 m n way p σ) (e5 : σ[5]? = some (some (.int a))) (e6 : σ[6]? = some (some (.int b))) (hm : MAt (some m) H k) :
    Rep ⟨K, some m, X0, H, []⟩ ⟨X0, [.mst, .no, .dat (.int n), .dat (.int way), .no, .dat (.int a), .dat (.int b), .no], k⟩ σ H := by
  refine rep_of xm xs xt h.len.symm hm (fun i x e => ?_) (fun i p ds e => ?_)
  · match i, e with
    | 0, e => cases e; exact ⟨m, ⟨rfl, h.kd⟩, h.e0⟩
    | 1, e => cases e; trivial
    | 2, e => cases e; exact ⟨_, h.e2, .int _⟩
    | 3, e => cases e; exact ⟨_, h.e3, .int _⟩
    | 4, e => cases e; trivial
    | 5, e => cases e; exact ⟨_, e5, .int _⟩
    | 6, e => cases e; exact ⟨_, e6, .int _⟩
    | 7, e => cases e; trivial
  · have mem := List.mem_of_getElem? e
    simp at mem
theorem le8 {K : PySem.W.Frag} {m : Mc} {n : Nat} {way a b : Int} {p : Addr} {X0 : List Addr} {σ : L2.St} {H : Hp} {k : Nat} (xm : ∀ a ∈ X0, a ∉ Ml (some m)) (xs : ∀ a ∈ X0, H a ≠ none) (xt : ∀ a ∈ X0, ∀ ps, H a ≠ some (.tbl ps)) (h : S8 m n way p σ) (e5 : σ[5]? = some (some (.int a))) (e6 : σ[6]? = some (some (.int b))) (hm : MAt (some m) H k) {t : DE} {R : D → Nat → Prop} {Q : VK}
    (ht : t ⟨X0, [.mst, .no, .dat (.int n), .dat (.int way), .no, .dat (.int a), .dat (.int b), .no], k⟩ R) (hq : ∀ d k', R d k' → ∀ v H', Keep (some m) X0 H H' → MAt (some m) H' k' → Rl K (wo H' (Ml (some m) ++ X0)) v d → Q v H') : exLE K t σ H Q :=
  ⟨⟨K, some m, X0, H, []⟩, rfl, _, R, rep8 xm xs xt h e5 e6 hm, ht, fun d k' hR v H' r a e => hq d k' hR v H' (Keep.rep r xm xs) r.m e⟩
theorem lt8 {K : PySem.W.Frag} {m : Mc} {n : Nat} {way a b : Int} {p : Addr} {X0 : List Addr} {σ : L2.St} {H : Hp} {k : Nat} (xm : ∀ a ∈ X0, a ∉ Ml (some m)) (xs : ∀ a ∈ X0, H a ≠ none) (xt : ∀ a ∈ X0, ∀ ps, H a ≠ some (.tbl ps)) (h : S8 m n way p σ) (e5 : σ[5]? = some (some (.int a))) (e6 : σ[6]? = some (some (.int b))) (hm : MAt (some m) H k) {t : DT} {R : Bool → Nat → Prop} {Q : Bool → Hp → Prop}
    (ht : t ⟨X0, [.mst, .no, .dat (.int n), .dat (.int way), .no, .dat (.int a), .dat (.int b), .no], k⟩ R) (hq : ∀ x k', R x k' → ∀ H', Keep (some m) X0 H H' → MAt (some m) H' k' → Q x H') : exLT K t σ H Q :=
  ⟨⟨K, some m, X0, H, []⟩, rfl, _, R, rep8 xm xs xt h e5 e6 hm, ht, fun d k' hR H' r a => hq d k' hR H' (Keep.rep r xm xs) r.m⟩
def sp__law_table : DSp := fun ds k R => ∃ most : Int, ds = [.int most] ∧ 1 ≤ most ∧ most ≤ 6 ∧ k < 90000000000 ∧ ∀ (T : Mat) (k' : Nat), Tab T → (T.length : Int) ≤ most → k ≤ k' → k' ≤ k + 40 → R (lM T) k'
end BW
set_option maxHeartbeats 1000000
namespace BW
open PySem L2 DL
abbrev badWord (d : D) : D := .exc "BadWord" ["place"] [d]
abbrev tooGreat (z : Int) : D := .exc "TooGreat" ["most"] [.int z]
def BadW (n : Nat) (d x : D) : Prop :=
  (d.items = none ∧ d.tname.isSome = true ∧ x = badWord .non) ∨
  (∃ xs, d.items = some xs ∧ 60 < xs.length ∧ x = tooGreat 60) ∨
  ∃ pre y post, d.items = some (pre ++ y :: post) ∧ (pre ++ y :: post).length ≤ 60 ∧ (∀ z ∈ pre, z.tname.isSome = true ∧ D.isL n z = true) ∧ y.tname.isSome = true ∧ D.isL n y = false ∧ x = badWord (.int pre.length)
end BW
set_option maxHeartbeats 1000000
namespace L2
open PySem PySem.Spec PyProof.Rows HT
theorem no_tuple_iadd : typeLookup (.type "tuple") (dunderI "add") = pure none := by rw [typeLookup_type, builtinLookup_eq_fast]; kernel_rfl
section
variable {prog : Program} {w : World} {A : Around} {E : Value → Shared → Prop} {s : Shared}
theorem iconcat_meets {T id : String} {B : Builtin} {a b : Value} {S : PySem.Spec} {Q : Value → Shared → Prop} (ha : s.TypeIs a T) (hb : s.TypeIs b T) (hno : typeLookup (.type T) (dunderI "add") = pure none)
    (hfill : fillsNumberSlot (.type T) "add" = pure false) (hseq : seqSlot? (.type T) "__add__" = pure (some (.builtin id))) (slot : Slot T "__add__" id)
    (entry : entryFor table id = some B) (args : argsOk id ⟨[a, b], []⟩) (g : Meets (B ⟨[a, b], []⟩) S) (h : S A (wants Q E) s) : wpAny (model prog w) A (inplaceOp .Add a b) Q E s :=
  PySem.wpAny_inplaceOp_concat ha hb hno hfill hseq (call_meets slot ha entry args g h)
theorem icat_tup {t b : Addr} {vs ws : List Value} {Q : Value → Shared → Prop} (ht : IsTup s.heap t vs.toArray) (hb : IsTup s.heap b ws.toArray)
    (h0 : vs = [] → Q (.ref b) s) (h1 : vs ≠ [] → ws = [] → Q (.ref t) s) (h2 : vs ≠ [] → ws ≠ [] → Q (.ref s.heap.objs.size) { s with heap := s.heap.push { cls := .type "tuple", data := .seq (vs ++ ws).toArray } })
    (hsz : vs.length + ws.length ≤ sizeLine) : wpAny (model prog w) A (inplaceOp .Add (.ref t) (.ref b)) Q E s := by
  obtain ⟨⟨cls, dd, data, sl⟩, ho, hc, n, hd⟩ := id ht
  obtain ⟨⟨cls2, dd2, data2, sl2⟩, ho2, hc2, n2, hd2⟩ := id hb
  simp only at hc hd hc2 hd2
  subst hc hd hc2 hd2
  have e : vs.toArray ++ ws.toArray = (vs ++ ws).toArray := by simp
  by_cases hv : vs = []
  · exact iconcat_meets ⟨_, ho, rfl⟩ ⟨_, ho2, rfl⟩ no_tuple_iadd noFill_tuple_add seq_tuple_add PySem.F.slot_tuple_add PySem.F.entry_tuple_add (PySem.F.args_tuple_add_2 _ _)
      (tuple_addW0 t b vs.toArray ws.toArray n n2 dd dd2 sl sl2 (by simp [hv])) ⟨ho, ho2, h0 hv⟩
  · by_cases hw : ws = []
    · exact iconcat_meets ⟨_, ho, rfl⟩ ⟨_, ho2, rfl⟩ no_tuple_iadd noFill_tuple_add seq_tuple_add PySem.F.slot_tuple_add PySem.F.entry_tuple_add (PySem.F.args_tuple_add_2 _ _)
        (tuple_addW1 t b vs.toArray ws.toArray n n2 dd dd2 sl sl2 (by simpa using hv) (by simp [hw])) ⟨ho, ho2, h1 hv hw⟩
    · refine iconcat_meets ⟨_, ho, rfl⟩ ⟨_, ho2, rfl⟩ no_tuple_iadd noFill_tuple_add seq_tuple_add PySem.F.slot_tuple_add PySem.F.entry_tuple_add (PySem.F.args_tuple_add_2 _ _)
        (tuple_addW2 t b vs.toArray ws.toArray n n2 dd dd2 sl sl2 (by simpa using hv) (by simpa using hw) (by rw [List.size_toArray, List.size_toArray]; exact hsz)) ⟨ho, ho2, ?_⟩
      rw [e]
      exact h2 hv hw
end
theorem iop_catA {X : Cx} : OpR X (inplaceOp .Add) (rCatA X.K) := by
  intro pins s σ H x y v u Q I rx ry h
  obtain ⟨a, b, xs, ys, rfl, rfl, ha, hb, hz, q0, q1, q2⟩ := h
  cases rx
  cases ry
  obtain ⟨its, r1, p1, _⟩ := I.tuple ha
  obtain ⟨its2, r2, p2, _⟩ := I.tuple hb
  refine icat_tup p1 p2 (fun z => ⟨.ref b, H, I, rfl, q0 (r1.nil_iff.mp z)⟩) (fun z z2 => ⟨.ref a, H, I, rfl, q1 (fun w => z (r1.nil_iff.mpr w)) (r2.nil_iff.mp z2)⟩) (fun z z2 => ?_) (by rw [← r1.length, ← r2.length]; exact hz)
  refine ⟨.ref s.heap.objs.size, _, I.laid (t' := s.toks) (o := .tup (xs ++ ys)) (fun b ob q => Heap.get?_push_of_some _ q) (Nat.le_refl _) ?_, rfl, q2 (fun w => z (r1.nil_iff.mpr w)) (fun w => z2 (r2.nil_iff.mpr w)) _ (I.hok.fresh (Nat.le_refl _))⟩
  exact ⟨by rw [List.length_append]; exact hz, _, r1.append r2, IsTup.new _ _⟩
end L2
namespace DL
open PySem L2
open PySem.W (Frag)
abbrev oAddT : O2 := fun x y Q => match x, y with
  | .tup a, .tup b => a.length + b.length ≤ lim ∧ Q (.tup (a ++ b))
  | _, _ => False
theorem fit_addT {X : Cx} {c : C} (hK : c.K = X.K) : Fit2 c (rCatA X.K) oAddT := fun s σ H x y a b R Q rp hx hy ho w => by
  cases a <;> first
    | exact ho.elim
    | (cases b <;> first
        | exact ho.elim
        | (obtain ⟨p, vs, rfl, h1, r1⟩ := Rl.tupE hx
           obtain ⟨q, us, rfl, h2, r2⟩ := Rl.tupE hy
           refine ⟨p, q, vs, us, rfl, rfl, hK ▸ (wo_sub _ _).st h1, hK ▸ (wo_sub _ _).st h2, ?_, fun e => ?_, fun _ e => ?_, fun _ _ => w.tup rp ho.2 (r1.app r2)⟩
           · rw [r1.len, r2.len]
             exact lim_le ho.1
           · subst e
             cases r1
             exact w.same rp ho.2 hy
           · subst e
             cases r2
             refine w.same rp ho.2 ?_
             rw [List.append_nil]
             exact hx))
abbrev dAugT (i : Nat) (t : DE) : DS := fun DD s => ∃ d, s.sl[i]? = some (.dat d) ∧ t s fun e k => oAddT d e fun z => DD.nx ((s.put i (.dat z)).at k)
abbrev dStar (t : DE) (u : DA) : DA := fun s Q => t s fun d k => ∃ ds, d.items = some ds ∧ u (s.at k) fun es k' => Q (ds ++ es) k'
section
variable {X : Cx} {c : C}
theorem psd_augT (hK : c.K = X.K) (i : Nat) {x : PySem.Str} {e : Expr} {t : DE} {pos pos' : Pos} (hN : X.N.Nodup) (he : PE X e (LE c t)) (hi : X.N[i]? = some x := by rfl) (hx : Loc X.env.scope x := by first | exact Or.inl rfl | exact Or.inr rfl) (hf : X.fn x = true ∨ X.env.scope.names.lookup x = some .local := by first | exact .inl rfl | exact .inr rfl) :
    PS X (.AugAssign (.Name x pos') .Add e pos) (LS c (dAugT i t)) :=
  (ps_aug (pos := pos) (pos' := pos') (ti := rCatA X.K) hN hi hx he iop_catA hf).weak fun D σ H ⟨s, DD, rp, ⟨d, h, q⟩, f⟩ => by
    obtain ⟨v, e1, rv⟩ := rp.slot i _ h
    refine ⟨v, e1, s, _, rp, q, fun y k hy u H1 r1 a1 e2 => ?_⟩
    refine fit_addT hK (s.at k) σ H1 v u d y _ _ r1 (rv.mono a1.sub) e2 hy fun z hz w H2 r2 a2 e3 => ?_
    exact f.nx _ _ _ (r2.putD (i := i) e3) (a1.sub.trans a2.sub) hz
theorem pad_star (hK : c.K = X.K) {e : Expr} {es : List Expr} {p : Pos} {t : DE} {u : DA} (ha : PE X e (LE c t)) (hr : PA X es (LA c u)) (hs : starEach (.Starred e p :: es) X.env = (true, eval e X.env) :: starEach es X.env := by rfl) : PA X (.Starred e p :: es) (LA c (dStar t u)) :=
  (StX.pa_star ha hr hs).weak fun σ H Q ⟨s, R, rp, q, f⟩ => by
    refine ⟨s, _, rp, q, fun d k ⟨ds, hd, hu⟩ v H1 r1 a1 e1 => ?_⟩
    obtain ⟨a, vs, rfl, h, r⟩ := e1.items hd
    refine ⟨a, vs, rfl, ?_, s.at k, _, r1, hu, fun es k2 h2 us H2 r2 a2 e2 => f _ k2 h2 _ H2 r2 (a1.trans a2) ((r.mono a2.sub).app e2)⟩
    have z := sq_all (wo_sub _ _) h
    exact (hK ▸ z).symm
end
end DL
set_option maxHeartbeats 1000000
set_option maxHeartbeats 1000000
set_option maxHeartbeats 1000000
namespace BW
open PySem L2 DL
def dOf : D → Option Deed
  | .tup [.str n, .int z] => if n = "out" then some (.out z.toNat) else some (.turn z.toNat)
  | .tup [.str _, .int z, .int a] => some (.inn z.toNat a)
  | _ => none
theorem dOf_d (e : Deed) : dOf e.d = some e := by
  cases e with
  | inn k a => rfl
  | out k => rfl
  | turn k => rfl
def stp (T : Mat) (w : List Int) (d : D) : Option (Deed × List Int) := if fitB T w d = true then (match dOf d with | some e => (mv T w e).map fun v => (e, v) | none => none) else none
theorem fit_deed {T : Mat} {w : List Int} {d : D} (h : fitB T w d = true) : ∃ e v, d = Deed.d e ∧ e.fits T.length w.length ∧ mv T w e = some v := by
  have hf : frmB d = true := by
    cases c : frmB d with
    | true => rfl
    | false => rw [fit_frm c] at h; cases h
  rcases frm_shape hf with ⟨z, a, rfl⟩ | ⟨z, rfl⟩ | ⟨z, rfl⟩
  · have h : (decide (0 ≤ z) && (decide (z ≤ w.length) && (decide (1 ≤ a) && decide (a ≤ T.length)))) = true := h
    obtain ⟨h1, h⟩ := Bool.and_eq_true_iff.mp h
    obtain ⟨h2, h⟩ := Bool.and_eq_true_iff.mp h
    obtain ⟨h3, h4⟩ := Bool.and_eq_true_iff.mp h
    have h1 := of_decide_eq_true h1
    have h2 := of_decide_eq_true h2
    obtain ⟨j, rfl⟩ : ∃ j : Nat, z = (j : Int) := ⟨z.toNat, by omega⟩
    exact ⟨.inn j a, _, rfl, ⟨by omega, of_decide_eq_true h3, of_decide_eq_true h4⟩, rfl⟩
  · have h : (decide (0 ≤ z) && goB w z.toNat) = true := h
    obtain ⟨h1, h2⟩ := Bool.and_eq_true_iff.mp h
    have h1 := of_decide_eq_true h1
    obtain ⟨j, rfl⟩ : ∃ j : Nat, z = (j : Int) := ⟨z.toNat, by omega⟩
    rw [Int.toNat_natCast] at h2
    have h2 := of_decide_eq_true h2
    exact ⟨.out j, _, rfl, trivial, by rw [mv_out, if_pos h2]⟩
  · have h : (decide (0 ≤ z) && tuB T w z.toNat) = true := h
    obtain ⟨h1, h2⟩ := Bool.and_eq_true_iff.mp h
    have h1 := of_decide_eq_true h1
    obtain ⟨j, rfl⟩ : ∃ j : Nat, z = (j : Int) := ⟨z.toNat, by omega⟩
    rw [Int.toNat_natCast] at h2
    obtain ⟨v, hv⟩ := Option.isSome_iff_exists.mp h2
    exact ⟨.turn j, v, rfl, trivial, hv⟩
theorem stp_some {T : Mat} {w : List Int} {d : D} {e : Deed} {v : List Int} (h : stp T w d = some (e, v)) : fitB T w d = true ∧ d = e.d ∧ e.fits T.length w.length ∧ mv T w e = some v := by
  unfold stp at h
  split at h
  · rename_i c
    obtain ⟨e', v', rfl, hf, hv⟩ := fit_deed c
    rw [dOf_d] at h
    have h : (mv T w e').map (fun v => (e', v)) = some (e, v) := h
    rw [hv] at h
    cases h
    exact ⟨c, rfl, hf, hv⟩
  · cases h
theorem stp_none {T : Mat} {w : List Int} {d : D} (h : stp T w d = none) : fitB T w d = false := by
  cases c : fitB T w d with
  | false => rfl
  | true =>
    obtain ⟨e', v', rfl, hf, hv⟩ := fit_deed c
    unfold stp at h
    rw [if_pos c, dOf_d] at h
    have h : (mv T w e').map (fun v => (e', v)) = none := h
    rw [hv] at h
    cases h
inductive WR where
  | ok (v : List Int) (bs : List Deed) | bad (j : Nat) | great
def wk (T : Mat) : List Int → List D → Nat → WR
  | w, [], _ => .ok w []
  | w, d :: r, j => match stp T w d with
    | none => .bad j
    | some (e, v) => if e.isIn = true ∧ 60 < w.length + 2 then .great else match wk T v r (j + 1) with
      | .ok u bs => .ok u (bk w e :: bs)
      | z => z
theorem wk_some {T : Mat} {w v : List Int} {d : D} {e : Deed} {r : List D} {j : Nat} (h : stp T w d = some (e, v)) (c : ¬(e.isIn = true ∧ 60 < w.length + 2)) : wk T w (d :: r) j = (match wk T v r (j + 1) with
      | .ok u bs => .ok u (bk w e :: bs)
      | z => z) := by
  show (match stp T w d with | none => WR.bad j | some (e, v) => _) = _
  rw [h]
  exact if_neg c
end BW
set_option maxHeartbeats 1000000
namespace BW
open PySem L2 DL
theorem isn {o : Option (List Int)} (h : o.isSome = true → False) : o = none := by
  cases o with
  | none => rfl
  | some _ => exact (h rfl).elim
theorem stp_deed {T : Mat} {w : List Int} (e : Deed) (he : e.fits T.length w.length) : (stp T w e.d).map (·.2) = mv T w e := by
  cases o : stp T w e.d with
  | some q =>
    obtain ⟨e', v⟩ := q
    obtain ⟨_, h1, _, h2⟩ := stp_some o
    have h3 := congrArg dOf h1
    rw [dOf_d, dOf_d] at h3
    cases h3
    exact h2.symm
  | none =>
    have f := stp_none o
    show none = mv T w e
    cases e with
    | inn k a =>
      exfalso
      obtain ⟨h1, h2, h3⟩ := he
      have f : (decide ((0 : Int) ≤ k) && (decide ((k : Int) ≤ w.length) && (decide (1 ≤ a) && decide (a ≤ T.length)))) = false := f
      rw [decide_eq_true (by omega), decide_eq_true (by omega), decide_eq_true h2, decide_eq_true h3] at f
      cases f
    | out k =>
      have f : (decide ((0 : Int) ≤ k) && goB w ((k : Int)).toNat) = false := f
      rw [decide_eq_true (by omega), Bool.true_and, Int.toNat_natCast] at f
      rw [mv_out, if_neg (of_decide_eq_false f)]
    | turn k =>
      have f : (decide ((0 : Int) ≤ k) && tuB T w ((k : Int)).toNat) = false := f
      rw [decide_eq_true (by omega), Bool.true_and, Int.toNat_natCast] at f
      exact (isn fun z => by
        have f : (mv T w (.turn k)).isSome = false := f
        rw [z] at f; cases f).symm
end BW
set_option maxHeartbeats 1000000
namespace BW
open PySem L2 DL
def spX_check_led : DSpX := fun ds k R E => ∃ d xs, ds = [d] ∧ d.items = some xs ∧ ((16 < xs.length ∧ E (tooGreat 16) k) ∨ (xs.length ≤ 16 ∧ R .non k))
def sp_is_shortest (BC : Addr) : DSp := fun ds k R => ∃ T d w, ds = [bnd BC T, d] ∧ Tab T ∧ isW d w ∧ w.length ≤ 60 ∧ Wd T.length w ∧ R (.bl (decide ((wd T 60 (row T w)).1.length = w.length))) k
abbrev t_is_shortest (BC : Addr) : DS := (dRet (dOp oEq (dCall (sp_length BC) (dCons (dVar 0) (dCons (dVar 1) dNil))) (dLenN 1)))
theorem r_is_shortest (BC : Addr) (X : List Addr) (ds : List D) (k : Nat) (R : D → Nat → Prop) (h : sp_is_shortest BC ds k R) : t_is_shortest BC (En R) (St0 false 2 ds X k) := by
  obtain ⟨T, d, w, rfl, ht, hw, hl, hwd, h⟩ := h
  intro X'
  refine ⟨_, rfl, _, rfl, T, d, w, rfl, ht, hw, hl, hwd, ?_⟩
  have e : ∀ Q : D → Prop, Q (.bl (decide ((wd T 60 (row T w)).1.length = w.length))) → oEq (.int (((wd T 60 (row T w)).1.length : Nat) : Int)) (.int (((w.map D.int).length : Nat) : Int)) Q := by
    intro Q q
    refine ⟨okI _, okI _, ?_⟩
    rw [eqvI, List.length_map]
    have : decide ((((wd T 60 (row T w)).1.length : Nat) : Int) = ((w.length : Nat) : Int)) = decide ((wd T 60 (row T w)).1.length = w.length) := decide_eq_decide.mpr ⟨fun z => by omega, fun z => by omega⟩
    rw [this]
    exact q
  rcases hw with rfl | rfl
  · exact ⟨_, rfl, e _ h⟩
  · exact ⟨_, rfl, e _ h⟩
end BW
set_option autoImplicit false
set_option maxHeartbeats 1000000
namespace BW
open PySem L2 DL
def TpB (T : Mat) (w v : List Int) : Prop := row T w = row T v ∧ (wd T 60 (row T w)).1.length = w.length ∧ (wd T 60 (row T v)).1.length = v.length
theorem sh_iff {T : Mat} (ht : Tab T) {w : List Int} (hw : Wd T.length w) (hl : w.length ≤ 60) : (wd T 60 (row T w)).1.length = w.length ↔ Sh T w := by
  obtain ⟨k, h, hk⟩ := LN.has hw
  have e := len60 ht hw h (by omega)
  rw [e]
  constructor
  · intro z
    show LN T w w.length
    rw [← z]; exact h
  · exact fun z => h.uniq z
theorem Tp.b {T : Mat} (ht : Tab T) {w v : List Int} (hl : w.length ≤ 60) (hm : v.length ≤ 60) (h : Tp T w v) : TpB T w v := ⟨h.al, (sh_iff ht h.hw hl).mpr h.sw, (sh_iff ht h.hv hm).mpr h.sv⟩
end BW
set_option maxHeartbeats 1000000
namespace BW
open PySem L2 DL
theorem lw_row2 {T : Mat} (ht : Tab T) {w : List Int} (hw : Wd T.length w) (hl : w.length ≤ 60) : row T (lw T w) = row T w ∧ Wd T.length (lw T w) ∧ (lw T w).length ≤ w.length ∧ Sh T (lw T w) := by
  have b := (wd_back ht (wd_rev hw) (by rw [List.length_reverse]; exact hl)).2
  rw [List.reverse_reverse] at b
  obtain ⟨n, hn, hn2⟩ := LN.has hw
  have e1 : (lw T w).length = n := (wd_len ht n (f := 60) (wd_rev hw) (LN.rev ht hw hn) (by omega)).1
  have wl : Wd T.length (lw T w) := wd_let 60 (row_length _ _)
  refine ⟨b, wl, by omega, ?_⟩
  show LN T (lw T w) (lw T w).length
  rw [e1]
  exact hn.cong hw wl b.symm
theorem Tp.symm {T : Mat} {w v : List Int} (h : Tp T w v) : Tp T v w := ⟨h.hv, h.hw, h.sv, h.sw, h.al.symm⟩
theorem Tp.refl {T : Mat} {w : List Int} (hw : Wd T.length w) (hs : Sh T w) : Tp T w w := ⟨hw, hw, hs, hs, rfl⟩
theorem Tp.turn {T : Mat} (ht : Tab T) {w v u : List Int} {k : Nat} (h : Tp T w v) (hm : mv T v (.turn k) = some u) : Tp T w u := by
  have wu : Wd T.length u := mv_wd (e := .turn k) h.hv trivial hm
  have ru : row T u = row T v := mv_row ht (e := .turn k) h.hv trivial hm
  have lu := Ws.all.mv_turn_len0 hm
  refine ⟨h.hw, wu, h.sw, ?_, h.al.trans ru.symm⟩
  show LN T u u.length
  rw [lu]
  exact h.sv.cong h.hv wu ru.symm
end BW
namespace BW
open PySem
def fw (c : List Int) (r : List Int) : List Int := (fall r).filter fun a => decide (a ∈ c)
theorem mem_alt {a b : Int} {n : Nat} (h : 2 ≤ n) {x : Int} : x ∈ alt a b n ↔ x = a ∨ x = b := by
  unfold alt
  rw [List.mem_map]
  constructor
  · rintro ⟨i, _, rfl⟩
    by_cases c : i % 2 = 0
    · rw [if_pos c]; exact .inl rfl
    · rw [if_neg c]; exact .inr rfl
  · rintro (rfl | rfl)
    · exact ⟨0, List.mem_range.mpr (by omega), if_pos rfl⟩
    · exact ⟨1, List.mem_range.mpr (by omega), if_neg (by decide)⟩
theorem tn1_mem {T : Mat} (ht : Tab T) {u v : List Int} (h : Tn1 T u v) {x : Int} (hx : x ∈ u) : x ∈ v := by
  obtain ⟨p, s, i, j, hi, hj, ne, pos, rfl, rfl⟩ := h
  have two : 2 ≤ (at2 T i j).toNat := by
    rcases ht.of i j hi hj ne with e | e | e | e | e <;> rw [e] at pos ⊢ <;> first | decide | (exact absurd pos (by decide))
  rcases List.mem_append.mp hx with hx | hx
  · rcases List.mem_append.mp hx with hx | hx
    · exact List.mem_append_left _ (List.mem_append_left _ hx)
    · exact List.mem_append_left _ (List.mem_append_right _ ((mem_alt two).mpr ((mem_alt two).mp hx).symm))
  · exact List.mem_append_right _ hx
theorem tn_mem {T : Mat} (ht : Tab T) {u v : List Int} (h : Tn T u v) {x : Int} (hx : x ∈ u) : x ∈ v := by
  induction h with
  | refl => exact hx
  | step h1 _ ih => exact ih (tn1_mem ht h1 hx)
theorem lw_len {T : Mat} (ht : Tab T) {w : List Int} (hw : Wd T.length w) (hl : w.length ≤ 60) {k : Nat} (h : LN T w k) : (lw T w).length = k := by
  obtain ⟨a, b, _, d⟩ := lw_row2 ht hw hl
  exact (d.cong b hw a).uniq h
end BW
namespace BW
open PySem
theorem wd_sub {n : Nat} {x y : List Int} (h : x.Sublist y) (hy : Wd n y) : Wd n x := fun a ha => hy a (h.subset ha)
end BW
set_option maxHeartbeats 1000000
namespace BW
open PySem L2 DL
def cnF (T : Mat) : Nat → List Int → Int
  | 0, _ => 1
  | n + 1, r => if fall r = [] then 1 else ((fall r).map fun a => cnF T n (press T r (ix a))).sum
theorem exS {T : Mat} (ht : Tab T) {x : List Int} (hx : Wd T.length x) {i : Nat} (hi : i < T.length) (hn : (row T x).getD i 0 < 0) : ∃ z : List Int, z.Sublist x ∧ z.length + 1 = x.length ∧ press T (row T x) i = row T z := by
  have C := car_of ht
  have l := lets_of hx
  have hn0 := hn
  rw [row_hv hx hi] at hn
  obtain ⟨u, b, v, e, h⟩ := TT.exch2 C hi l (TT.hv_neg_iff C hi l hn)
  obtain ⟨U, R, rfl, rfl, e2⟩ := List.map_eq_append_iff.mp e
  obtain ⟨B, V, rfl, rfl, rfl⟩ := List.map_eq_cons_iff.mp e2
  have hs : (U ++ V).Sublist (U ++ B :: V) := (List.Sublist.refl U).append (List.sublist_cons_self B V)
  have wz : Wd T.length (U ++ V) := wd_sub hs hx
  have wx : Wd T.length ((U ++ B :: V) ++ [(i : Int) + 1]) := wd_app hx (wd_one hi)
  refine ⟨U ++ V, hs, by simp; omega, ?_⟩
  have e4 : press T (row T (U ++ B :: V)) i = row T ((U ++ B :: V) ++ [(i : Int) + 1]) := by rw [row_snoc, ix_succ]
  rw [e4]
  refine (row_eq_iff wx wz).mpr ?_
  refine TT.Rw.of_map fun y hy => ?_
  have := h y hy
  have e3 : ((U ++ B :: V) ++ [(i : Int) + 1]).map ix = (U ++ B :: V).map ix ++ [i] := by rw [List.map_append]; simp [ix_succ]
  rw [e3, this, List.map_append]
theorem fall_dn {T : Mat} (ht : Tab T) {x : List Int} (hx : Wd T.length x) {a : Int} (ha : a ∈ fall (row T x)) : ∃ z : List Int, z.Sublist x ∧ z.length + 1 = x.length ∧ press T (row T x) (ix a) = row T z ∧ 1 ≤ a ∧ a ≤ T.length := by
  obtain ⟨i, rfl, hi, hn⟩ := fall_mem ha
  rw [row_length] at hi
  obtain ⟨z, h1, h2, h3⟩ := exS ht hx hi hn
  exact ⟨z, h1, h2, by rw [ix_succ]; exact h3, by omega, by omega⟩
theorem cn_stable {T : Mat} (ht : Tab T) : ∀ (n : Nat) {x : List Int}, Wd T.length x → x.length ≤ n → ∀ m, n ≤ m → cnF T m (row T x) = cnF T n (row T x)
  | 0, x, hx, hl, m, _ => by
    have : x = [] := List.length_eq_zero_iff.mp (by omega)
    subst this
    cases m with
    | zero => rfl
    | succ m =>
      have : fall (row T []) = [] := by
        cases e : fall (row T []) with
        | nil => rfl
        | cons a l =>
          obtain ⟨z, _, h, _⟩ := fall_dn ht (x := []) hx (a := a) (by rw [e]; exact List.mem_cons_self)
          exact absurd h (by simp)
      show (if fall (row T []) = [] then 1 else _) = 1
      rw [if_pos this]
  | n + 1, x, hx, hl, m, hm => by
    obtain ⟨m, rfl⟩ : ∃ m', m = m' + 1 := ⟨m - 1, by omega⟩
    show (if fall (row T x) = [] then 1 else ((fall (row T x)).map fun a => cnF T m (press T (row T x) (ix a))).sum) = if fall (row T x) = [] then 1 else ((fall (row T x)).map fun a => cnF T n (press T (row T x) (ix a))).sum
    have : (fall (row T x)).map (fun a => cnF T m (press T (row T x) (ix a))) = (fall (row T x)).map fun a => cnF T n (press T (row T x) (ix a)) := List.map_congr_left fun a ha => by
      obtain ⟨z, h1, h2, h3, _⟩ := fall_dn ht hx ha
      rw [h3]
      exact cn_stable ht n (wd_sub h1 hx) (by omega) m (by omega)
    rw [this]
def cn (T : Mat) (r : List Int) : Int := cnF T 61 r
theorem cn_eq {T : Mat} (ht : Tab T) {x : List Int} (hx : Wd T.length x) (hl : x.length ≤ 60) : cn T (row T x) = if fall (row T x) = [] then 1 else ((fall (row T x)).map fun a => cn T (press T (row T x) (ix a))).sum := by
  show (if fall (row T x) = [] then 1 else ((fall (row T x)).map fun a => cnF T 60 (press T (row T x) (ix a))).sum) = _
  have : (fall (row T x)).map (fun a => cnF T 60 (press T (row T x) (ix a))) = (fall (row T x)).map fun a => cn T (press T (row T x) (ix a)) := List.map_congr_left fun a ha => by
    obtain ⟨z, h1, h2, h3, _⟩ := fall_dn ht hx ha
    rw [h3]
    exact (cn_stable ht 60 (wd_sub h1 hx) (by omega) 61 (by omega)).symm
  rw [this]
def ClZ (T : Mat) (Z : List (List Int)) : Prop := ∀ x : List Int, Wd T.length x → row T x ∈ Z → ∀ a ∈ fall (row T x), press T (row T x) (ix a) ∈ Z
def sp_countedN (n : Nat) (BC : Addr) : DSpK := fun N Z ds k R => ∃ (T : Mat) (x : List Int), ds = [bnd BC T, tI (row T x)] ∧ Tab T ∧ Wd T.length x ∧ x.length < n ∧ x.length ≤ 20 ∧ N = cn T ∧ ClZ T Z ∧ row T x ∈ Z ∧ R (.int (cn T (row T x))) k
def sp_counted (BC : Addr) : DSpK := sp_countedN 20 BC
abbrev t_countedN (n : Nat) (BC : Addr) : DS := (dMemo 2 1 (dSet 3 (dCall sp_fallen (dCons (dVar 1) dNil))) (dSet 4 (dFr (dLc (iTp (dVar 3)) (dgN 5) dY (dCallK 2 (sp_countedN n BC) (dVar 0) (dCall (sp_pressed BC) (dCons (dVar 0) (dCons (dVar 1) (dCons (dVar 5) dNil))))) [5]))) (dIf (dTru (dVar 3)) (dSum (dVar 4)) (dC (.int 1))))
theorem r_countedN (n : Nat) (BC : Addr) (X : List Addr) (N : List Int → Int) (Z : List (List Int)) (ds : List D) (k : Nat) (R : D → Nat → Prop) (h : sp_countedN (n + 1) BC N Z ds k R) : t_countedN n BC (En R) ⟨X, initK 6 ds N Z, k⟩ := by
  obtain ⟨T, x, rfl, ht, hx, hn, hl, rfl, hc, hz, h⟩ := h
  have lr := row_length T x
  have hT := ht.hi
  refine ⟨_, Z, row T x, rfl, rfl, hz, h, ?_⟩
  refine ⟨_, rfl, row T x, rfl, by omega, ?_⟩
  have lf : ((fall (row T x)).map D.int).length ≤ 6 := by
    rw [List.length_map]
    unfold fall
    rw [List.length_map]
    refine Nat.le_trans (List.length_filter_le _ _) ?_
    rw [List.length_range]; omega
  let g : Int → Int := fun a => cn T (press T (row T x) (ix a))
  refine ⟨_, rfl, _, rfl, Nat.le_trans lf (by decide), fun p hp => ⟨fun j acc k' => k' = k ∧ acc = ((fall (row T x)).take j).map fun a => D.int (g a), ⟨rfl, rfl⟩, ?_, ?_⟩⟩
  · rintro j e acc k' he ⟨rfl, rfl⟩ _
    rw [List.getElem?_map] at he
    obtain ⟨a, ha, rfl⟩ := Option.map_eq_some_iff.mp he
    have hm := List.mem_of_getElem? ha
    obtain ⟨z, h1, h2, h3, h4, h5⟩ := fall_dn ht hx hm
    refine iteT ⟨cn T, Z, rfl, _, rfl, _, rfl, _, rfl, _, rfl, T, row T x, a, rfl, ht, lr, h4, h5, ?_⟩
    refine ⟨T, z, by rw [h3], ht, wd_sub h1 hx, by omega, by omega, rfl, hc, ?_, ?_⟩
    · rw [← h3]
      exact hc x hx hz a hm
    · refine ⟨rfl, ?_⟩
      rw [List.take_succ, ha, List.map_append]
      show _ = _ ++ [D.int (cn T (press T (row T x) (ix a)))]
      rw [h3]
  · rintro acc k' ⟨rfl, rfl⟩ _
    have lf2 : ((fall (row T x)).map D.int).length = (fall (row T x)).length := List.length_map ..
    rw [lf2, List.take_length]
    have eq := cn_eq ht hx (by omega)
    refine ⟨rfl, rfl, _, rfl, _, rfl, ?_⟩
    cases e : fall (row T x) with
    | nil =>
      rw [e] at eq
      rw [if_pos rfl] at eq
      refine iteF ⟨by rw [eq], h⟩
    | cons a l =>
      rw [e] at eq
      rw [if_neg (by simp)] at eq
      refine iteT ⟨_, rfl, (a :: l).map g, by rw [List.map_map]; rfl, by rw [eq], h⟩
theorem cnN_no {K : PySem.W.Frag} {BC : Addr} {vs : List V} {H : Hp} {Q : V → Hp → Prop} {E : XK} (q : spDK K (sp_countedN 0 BC) vs H Q E) : False := by
  obtain ⟨m, N, Z, X0, k, ds, ws, R, h1, a, ⟨T, x, _, _, _, hz, _⟩, h3⟩ := q
  exact absurd hz (Nat.not_lt_zero _)
theorem countedN_zero {P : Program} {w : World} {K : PySem.W.Frag} {mg : PySem.Str → Option Value} {base : Heap} {BC : Addr} {k : Nat} {f : Addr} {fd : FuncData} {ps : List PySem.Str} : FnOk P w K mg base CX0 k f fd ps (spDK K (sp_countedN 0 BC)) :=
  ⟨fun _ _ _ _ q => (cnN_no q).elim, fun _ _ _ _ _ _ _ _ _ _ _ _ _ hs => (cnN_no hs).elim⟩
end BW
set_option maxHeartbeats 1000000
namespace BW
open PySem L2 DL
def subs : List Int → List (List Int)
  | [] => [[]]
  | a :: l => subs l ++ (subs l).map (a :: ·)
theorem subs_len : ∀ l : List Int, (subs l).length = 2 ^ l.length
  | [] => rfl
  | a :: l => by
    show (subs l ++ (subs l).map (a :: ·)).length = 2 ^ (l.length + 1)
    rw [List.length_append, List.length_map, subs_len l, Nat.pow_succ]; omega
theorem subs_of : ∀ {l u : List Int}, u.Sublist l → u ∈ subs l
  | _, _, .slnil => List.mem_singleton.mpr rfl
  | _, _, .cons a h => List.mem_append_left _ (subs_of h)
  | _, _, .cons₂ a h => List.mem_append_right _ (List.mem_map.mpr ⟨_, subs_of h, rfl⟩)
theorem of_subs : ∀ {l u : List Int}, u ∈ subs l → u.Sublist l
  | [], u, h => by
    have := List.mem_singleton.mp h
    subst this
    exact .slnil
  | a :: l, u, h => by
    rcases List.mem_append.mp h with h | h
    · exact (of_subs h).cons a
    · obtain ⟨x, hx, rfl⟩ := List.mem_map.mp h
      exact (of_subs hx).cons₂ a
def Zs (T : Mat) (v : List Int) : List (List Int) := (subs v).map (row T)
theorem zs_len {T : Mat} {v : List Int} (h : v.length ≤ 16) : (Zs T v).length ≤ 100000 := by
  unfold Zs
  rw [List.length_map, subs_len]
  exact Nat.le_trans (Nat.pow_le_pow_right (by decide) h) (by decide)
theorem zs_self (T : Mat) (v : List Int) : row T v ∈ Zs T v := List.mem_map.mpr ⟨v, subs_of (List.Sublist.refl _), rfl⟩
theorem zs_cl {T : Mat} (ht : Tab T) {v : List Int} (hv : Wd T.length v) : ClZ T (Zs T v) := fun x hx h a ha => by
  obtain ⟨u, hu, e⟩ := List.mem_map.mp h
  have su := of_subs hu
  rw [← e] at ha ⊢
  obtain ⟨z, h1, _, h3, _⟩ := fall_dn ht (wd_sub su hv) ha
  rw [h3]
  exact List.mem_map.mpr ⟨z, subs_of (h1.trans su), rfl⟩
theorem rev_ok {n : Nat} {w : List Int} (h : Wd n w) : Wd n w.reverse := fun a ha => h a (List.mem_reverse.mp ha)
end BW
namespace DL
open PySem L2
open PySem.W (Frag)
abbrev oAddI : O2 := fun x y Q => match x, y with
  | .int i, .int j => Q (.int (i + j))
  | _, _ => False
theorem fit_addI {X : Cx} {c : C} : Fit2 c (rI0 fun i j => .int (i + j)) oAddI := fun s σ H x y a b R Q rp hx hy ho w => by
  cases a <;> first
    | exact ho.elim
    | (cases b <;> first
        | exact ho.elim
        | (cases hx.intE; cases hy.intE; exact ⟨_, _, rfl, rfl, w.same rp ho (.int _)⟩))
abbrev dAugI (o : O2) (i : Nat) (t : DE) : DS := fun DD s => ∃ d, s.sl[i]? = some (.dat d) ∧ t s fun e k => o d e fun z => DD.nx ((s.put i (.dat z)).at k)
section
variable {X : Cx} {c : C}
theorem psd_augA (i : Nat) {x : PySem.Str} {e : Expr} {t : DE} {pos pos' : Pos} (hN : X.N.Nodup) (he : PE X e (LE c t)) (hi : X.N[i]? = some x := by rfl) (hx : Loc X.env.scope x := by first | exact Or.inl rfl | exact Or.inr rfl) (hf : X.fn x = true ∨ X.env.scope.names.lookup x = some .local := by first | exact .inl rfl | exact .inr rfl) :
    PS X (.AugAssign (.Name x pos') .Add e pos) (LS c (dAugI oAddI i t)) :=
  (ps_aug (pos := pos) (pos' := pos') (ti := rI0 fun i j => .int (i + j)) hN hi hx he iop_add hf).weak fun D σ H ⟨s, DD, rp, ⟨d, h, q⟩, f⟩ => by
    obtain ⟨v, e1, rv⟩ := rp.slot i _ h
    refine ⟨v, e1, s, _, rp, q, fun y k hy u H1 r1 a1 e2 => ?_⟩
    refine fit_addI (X := X) (s.at k) σ H1 v u d y _ _ r1 (rv.mono a1.sub) e2 hy fun z hz w H2 r2 a2 e3 => ?_
    exact f.nx _ _ _ (r2.putD (i := i) e3) (a1.sub.trans a2.sub) hz
theorem psd_augS (i : Nat) {x : PySem.Str} {e : Expr} {t : DE} {pos pos' : Pos} (hN : X.N.Nodup) (he : PE X e (LE c t)) (hi : X.N[i]? = some x := by rfl) (hx : Loc X.env.scope x := by first | exact Or.inl rfl | exact Or.inr rfl) (hf : X.fn x = true ∨ X.env.scope.names.lookup x = some .local := by first | exact .inl rfl | exact .inr rfl) :
    PS X (.AugAssign (.Name x pos') .Sub e pos) (LS c (dAugI oSub i t)) :=
  (ps_aug (pos := pos) (pos' := pos') (ti := rI0 fun i j => .int (i - j)) hN hi hx he iop_sub hf).weak fun D σ H ⟨s, DD, rp, ⟨d, h, q⟩, f⟩ => by
    obtain ⟨v, e1, rv⟩ := rp.slot i _ h
    refine ⟨v, e1, s, _, rp, q, fun y k hy u H1 r1 a1 e2 => ?_⟩
    refine fit_sub (s.at k) σ H1 v u d y _ _ r1 (rv.mono a1.sub) e2 hy fun z hz w H2 r2 a2 e3 => ?_
    exact f.nx _ _ _ (r2.putD (i := i) e3) (a1.sub.trans a2.sub) hz
end
end DL
set_option maxHeartbeats 1000000
namespace BW
open PySem L2 DL
abbrev rwP (T : Mat) (w : List Int) (p : Nat) : List Int := row T ((w.drop p).reverse)
def smP (T : Mat) (w : List Int) (p : Nat) : Int := (((fall (rwP T w p)).filter fun l => decide (l < w.getD p 0)).map fun l => cn T (press T (rwP T w p) (ix l))).sum
def wnP (T : Mat) (w : List Int) : Nat → Int
  | 0 => 0
  | p + 1 => wnP T w p + smP T w p
theorem row_twice {T : Mat} (ht : Tab T) {w : List Int} {i : Nat} (hi : i < T.length) : row T (w ++ [(i : Int) + 1, (i : Int) + 1]) = row T w := by
  have : w ++ [(i : Int) + 1, (i : Int) + 1] = w ++ [(i : Int) + 1] ++ [(i : Int) + 1] := by rw [List.append_assoc]; rfl
  rw [this, row_undo ht hi]
theorem rwP_next {T : Mat} (ht : Tab T) {w : List Int} (hw : Wd T.length w) {p : Nat} {a : Int} (h : w[p]? = some a) : press T (rwP T w p) (ix a) = rwP T w (p + 1) := by
  obtain ⟨hp, e⟩ := List.getElem?_eq_some_iff.mp h
  have ha := hw a (List.mem_of_getElem? h)
  show press T (row T ((w.drop p).reverse)) (ix a) = row T ((w.drop (p + 1)).reverse)
  obtain ⟨m, rfl⟩ : ∃ m : Nat, a = (m : Int) + 1 := ⟨(a - 1).toNat, by omega⟩
  rw [List.drop_eq_getElem_cons hp, e, List.reverse_cons, ← row_snoc, List.append_assoc]
  exact row_twice ht (by omega)
theorem rwP_sub (w : List Int) (p : Nat) : ((w.drop p).reverse).Sublist w.reverse := (List.drop_sublist p w).reverse
abbrev t_wn1 (BC : Addr) : DS := (dSet 6 (dFr (dLc (iTp (dCall sp_fallen (dCons (dVar 2) dNil))) (dgN 7) (dTB (dOp oLt (dVar 7) (dVar 5))) (dCall (sp_pressed BC) (dCons (dVar 0) (dCons (dVar 2) (dCons (dVar 7) dNil)))) [7])))
abbrev t_wn2 (BC : Addr) : DS := (dAugI oAddI 4 (dSum (dFr (dLc (iLst (dVar 6)) (dgN 8) dY (dCallK 3 (sp_counted BC) (dVar 0) (dVar 8)) [8]))))
abbrev t_wn3 (BC : Addr) : DS := (dSet 2 (dCall (sp_pressed BC) (dCons (dVar 0) (dCons (dVar 2) (dCons (dVar 5) dNil)))))
section
variable {BC : Addr} {T : Mat} {w : List Int} {p : Nat} {a n : Int} {X : List Addr} {k : Nat} {x4 x5 x6 x7 x8 : Sl} {DD : DEnds} {Z : List (List Int)}
abbrev ahP (T : Mat) (w : List Int) (p : Nat) (a : Int) : List (List Int) := ((fall (rwP T w p)).filter fun l => decide (l < a)).map fun l => press T (rwP T w p) (ix l)
theorem fall_le (r : List Int) : (fall r).length ≤ r.length := by
  unfold fall
  rw [List.length_map]
  refine Nat.le_trans (List.length_filter_le _ _) ?_
  rw [List.length_range]; exact Nat.le_refl _
theorem fall_bd {r : List Int} {l : Int} (h : l ∈ fall r) : 1 ≤ l ∧ l ≤ r.length := by
  obtain ⟨i, rfl, hi, _⟩ := fall_mem h
  omega
end
end BW
set_option maxHeartbeats 1000000
namespace BW
open PySem L2 DL
def spF (T : Mat) : Nat → List Int → List (List Int)
  | 0, _ => [[]]
  | n + 1, r => if fall r = [] then [[]] else (fall r).flatMap fun a => (spF T n (press T r (ix a))).map (a :: ·)
theorem sum_cast {α : Type} (f : α → Nat) : ∀ l : List α, (((l.map f).sum : Nat) : Int) = (l.map fun a => (f a : Int)).sum
  | [] => rfl
  | a :: l => by rw [List.map_cons, List.sum_cons, List.map_cons, List.sum_cons, Int.natCast_add, sum_cast f l]
theorem cnF_len (T : Mat) : ∀ (n : Nat) (r : List Int), cnF T n r = ((spF T n r).length : Int)
  | 0, _ => rfl
  | n + 1, r => by
    show (if fall r = [] then 1 else ((fall r).map fun a => cnF T n (press T r (ix a))).sum) = (((if fall r = [] then [[]] else (fall r).flatMap fun a => (spF T n (press T r (ix a))).map (a :: ·)) : List (List Int)).length : Int)
    by_cases e : fall r = []
    · rw [if_pos e, if_pos e]; rfl
    · rw [if_neg e, if_neg e, List.length_flatMap, sum_cast]
      refine congrArg List.sum (List.map_congr_left fun a _ => ?_)
      rw [List.length_map]
      exact cnF_len T n _
theorem spF_stable {T : Mat} (ht : Tab T) : ∀ (n : Nat) {x : List Int}, Wd T.length x → x.length ≤ n → ∀ m, n ≤ m → spF T m (row T x) = spF T n (row T x)
  | 0, x, hx, hl, m, _ => by
    have : x = [] := List.length_eq_zero_iff.mp (by omega)
    subst this
    cases m with
    | zero => rfl
    | succ m =>
      have : fall (row T []) = [] := fall_one1 T
      show (if fall (row T []) = [] then [[]] else _) = [[]]
      rw [if_pos this]
  | n + 1, x, hx, hl, m, hm => by
    obtain ⟨m, rfl⟩ : ∃ m', m = m' + 1 := ⟨m - 1, by omega⟩
    show (if fall (row T x) = [] then [[]] else (fall (row T x)).flatMap fun a => (spF T m (press T (row T x) (ix a))).map (a :: ·)) = if fall (row T x) = [] then [[]] else (fall (row T x)).flatMap fun a => (spF T n (press T (row T x) (ix a))).map (a :: ·)
    by_cases e : fall (row T x) = []
    · rw [if_pos e, if_pos e]
    · rw [if_neg e, if_neg e, List.flatMap_def, List.flatMap_def]
      refine congrArg List.flatten (List.map_congr_left fun a ha => ?_)
      obtain ⟨z, h1, h2, h3, _⟩ := fall_dn ht hx ha
      rw [h3, spF_stable ht n (wd_sub h1 hx) (by omega) m (by omega)]
def spS (T : Mat) (r : List Int) : List (List Int) := spF T 61 r
theorem cn_len (T : Mat) (r : List Int) : cn T r = ((spS T r).length : Int) := cnF_len T 61 r
theorem spS_eq {T : Mat} (ht : Tab T) {x : List Int} (hx : Wd T.length x) (hl : x.length ≤ 60) : spS T (row T x) = if fall (row T x) = [] then [[]] else (fall (row T x)).flatMap fun a => (spS T (press T (row T x) (ix a))).map (a :: ·) := by
  show (if fall (row T x) = [] then [[]] else (fall (row T x)).flatMap fun a => (spF T 60 (press T (row T x) (ix a))).map (a :: ·)) = _
  by_cases e : fall (row T x) = []
  · rw [if_pos e, if_pos e]
  · rw [if_neg e, if_neg e, List.flatMap_def, List.flatMap_def]
    refine congrArg List.flatten (List.map_congr_left fun a ha => ?_)
    obtain ⟨z, h1, h2, h3, _⟩ := fall_dn ht hx ha
    rw [h3]
    show _ = (spF T 61 (row T z)).map (a :: ·)
    rw [spF_stable ht 60 (wd_sub h1 hx) (by omega) 61 (by omega)]
structure Spl (T : Mat) (x u : List Int) : Prop where
  wd : Wd T.length u
  ln : LN T x u.length
  end_ : row T (x ++ u) = one T
theorem spS_spl {T : Mat} (ht : Tab T) : ∀ (n : Nat) {x : List Int}, Wd T.length x → x.length ≤ n → n ≤ 60 → ∀ u ∈ spS T (row T x), Spl T x u
  | n, x, hx, hl, hn, u, hu => by
    obtain ⟨k, hk, hkl⟩ := LN.has hx
    rw [spS_eq ht hx (by omega)] at hu
    by_cases e : fall (row T x) = []
    · rw [if_pos e] at hu
      have := List.mem_singleton.mp hu
      subst this
      obtain ⟨h1, h2⟩ := hk.none ht hx e
      subst h1
      exact ⟨fun a ha => (nomatch ha), hk, by rw [List.append_nil]; exact h2⟩
    · rw [if_neg e] at hu
      obtain ⟨a, ha, hu⟩ := List.mem_flatMap.mp hu
      obtain ⟨v, hv, rfl⟩ := List.mem_map.mp hu
      obtain ⟨z, h1, h2, h3, h4, h5⟩ := fall_dn ht hx ha
      obtain ⟨j, e1, e2, e3, e4⟩ := hk.step ht hx ha
      rw [h3] at hv
      have wz := wd_sub h1 hx
      match n, hl, hn with
      | 0, hl, _ => exact absurd h2 (by omega)
      | n + 1, hl, hn =>
        have s := spS_spl ht n wz (by omega) (by omega) v hv
        have er : row T z = row T (x ++ [a]) := by rw [← h3, ← e4]
        refine ⟨fun b hb => ?_, ?_, ?_⟩
        · rcases List.mem_cons.mp hb with rfl | hb
          · exact ⟨h4, h5⟩
          · exact s.wd b hb
        · have := (e2.cong e3 wz er.symm).uniq s.ln
          rw [List.length_cons, ← this, ← e1]
          exact hk
        · have := row_app (z := v) er
          rw [s.end_, List.append_assoc] at this
          exact this.symm
theorem spl_mem {T : Mat} (ht : Tab T) : ∀ (u : List Int) {x : List Int}, Wd T.length x → x.length ≤ 60 → Spl T x u → u ∈ spS T (row T x)
  | [], x, hx, hl, s => by
    rw [spS_eq ht hx hl]
    have : fall (row T x) = [] := by
      cases e : fall (row T x) with
      | nil => rfl
      | cons a l =>
        obtain ⟨j, e1, _⟩ := LN.step ht hx s.ln (a := a) (by rw [e]; exact List.mem_cons_self)
        exact absurd e1 (by simp)
    rw [if_pos this]
    exact List.mem_singleton.mpr rfl
  | a :: v, x, hx, hl, s => by
    have ha := s.wd a List.mem_cons_self
    have wv : Wd T.length v := fun b hb => s.wd b (List.mem_cons_of_mem _ hb)
    obtain ⟨i, rfl⟩ : ∃ i : Nat, a = (i : Int) + 1 := ⟨(a - 1).toNat, by omega⟩
    have hi : i < T.length := by omega
    have wx : Wd T.length (x ++ [(i : Int) + 1]) := wd_app hx (wd_one hi)
    obtain ⟨k, hk, _⟩ := LN.has wx
    have e0 : row T (x ++ [(i : Int) + 1] ++ v) = one T := by rw [List.append_assoc]; exact s.end_
    have l0 : LN T (x ++ [(i : Int) + 1] ++ v) 0 := by
      have n0 : LN T [] 0 := by
        obtain ⟨q, hq, hq2⟩ := LN.has (T := T) (w := []) (fun a ha => absurd ha (by simp))
        have : q = 0 := by simpa using hq2
        rw [← this]; exact hq
      exact LN.cong (u := []) (fun a ha => absurd ha (by simp)) (wd_app wx wv) n0 e0.symm
    have f1 := LN.far ht wx wv hk l0
    have f2 := LN.far ht hx (wd_one hi) s.ln hk
    rw [List.length_cons] at f2
    have kl : k = v.length := by simp at f2; omega
    rw [kl] at hk
    have hn := fall_of_less ht hx hi s.ln hk
    have hf : ((i : Int) + 1) ∈ fall (row T x) := (mem_fall (by rw [row_length]; exact hi)).mpr hn
    rw [spS_eq ht hx hl, if_neg (fun z => by rw [z] at hf; cases hf)]
    obtain ⟨z, h1, h2, h3, _⟩ := fall_dn ht hx hf
    refine List.mem_flatMap.mpr ⟨_, hf, List.mem_map.mpr ⟨v, ?_, rfl⟩⟩
    have er : row T (x ++ [(i : Int) + 1]) = row T z := by rw [row_snoc]; exact h3
    rw [h3]
    have wz := wd_sub h1 hx
    refine spl_mem ht v wz (by omega) ⟨wv, hk.cong wx wz er, ?_⟩
    rw [← row_app (z := v) er]
    exact e0
theorem lt_cons_same (a : Int) (u v : List Int) : HT.lexLt (a :: u) (a :: v) = HT.lexLt u v := by rw [HT.lexLt_cons, if_pos rfl]
theorem lt_irr : ∀ u : List Int, HT.lexLt u u = false
  | [] => rfl
  | a :: u => by rw [lt_cons_same]; exact lt_irr u
theorem fall_asc (r : List Int) : (fall r).Pairwise (· < ·) := by
  unfold fall
  rw [List.pairwise_map]
  refine List.Pairwise.imp (fun h => ?_) (List.Pairwise.filter _ List.pairwise_lt_range)
  omega
theorem flat_pair {α β : Type} {R : β → β → Prop} {S : α → α → Prop} {f : α → List β} (h2 : ∀ a b, S a b → ∀ x ∈ f a, ∀ y ∈ f b, R x y) : ∀ {l : List α}, l.Pairwise S → (∀ a ∈ l, (f a).Pairwise R) → (l.flatMap f).Pairwise R
  | [], _, _ => List.Pairwise.nil
  | a :: l, hp, h1 => by
    obtain ⟨p1, p2⟩ := List.pairwise_cons.mp hp
    rw [List.flatMap_cons]
    refine List.pairwise_append.mpr ⟨h1 a List.mem_cons_self, flat_pair h2 p2 fun b hb => h1 b (List.mem_cons_of_mem _ hb), fun x hx y hy => ?_⟩
    obtain ⟨b, hb, hy⟩ := List.mem_flatMap.mp hy
    exact h2 a b (p1 b hb) x hx y hy
theorem spF_asc (T : Mat) : ∀ (n : Nat) (r : List Int), (spF T n r).Pairwise fun u v => HT.lexLt u v = true
  | 0, _ => List.pairwise_singleton _ _
  | n + 1, r => by
    show ((if fall r = [] then [[]] else (fall r).flatMap fun a => (spF T n (press T r (ix a))).map (a :: ·)) : List (List Int)).Pairwise _
    by_cases e : fall r = []
    · rw [if_pos e]; exact List.pairwise_singleton _ _
    · rw [if_neg e]
      refine flat_pair (S := (· < ·)) (fun a b h x hx y hy => ?_) (fall_asc r) fun a _ => ?_
      · obtain ⟨u, _, rfl⟩ := List.mem_map.mp hx
        obtain ⟨v, _, rfl⟩ := List.mem_map.mp hy
        rw [HT.lexLt_cons, if_neg (by omega), decide_eq_true h]
      · rw [List.pairwise_map]
        refine List.Pairwise.imp (fun h => ?_) (spF_asc T n _)
        rw [lt_cons_same]
        exact h
theorem spS_asc (T : Mat) (r : List Int) : (spS T r).Pairwise fun u v => HT.lexLt u v = true := spF_asc T 61 r
theorem spS_nodup (T : Mat) (r : List Int) : (spS T r).Nodup := List.Pairwise.imp (fun {u v} h e => by rw [e, lt_irr] at h; cases h) (spS_asc T r)
theorem spl_row {T : Mat} (ht : Tab T) {w u : List Int} (hw : Wd T.length w) (s : Spl T w.reverse u) : row T u = row T w := by
  have e1 : row T ([] ++ u.reverse) = row T w.reverse := row_back ht s.wd (by rw [s.end_]; rfl)
  rw [List.nil_append] at e1
  have e2 := row_rev ht (wd_rev s.wd) (wd_rev hw) e1
  rw [List.reverse_reverse, List.reverse_reverse] at e2
  exact e2
theorem spS_head {T : Mat} (ht : Tab T) : ∀ (k : Nat) {x : List Int} {f : Nat}, Wd T.length x → x.length ≤ 60 → LN T x k → k ≤ f → (spS T (row T x))[0]? = some (wd T f (row T x)).1
  | k, x, f, hx, hl, hk, hf => by
    rw [spS_eq ht hx hl]
    cases e : fall (row T x) with
    | nil =>
      rw [wd_nil e]
      rfl
    | cons a l =>
      have ha : a ∈ fall (row T x) := by rw [e]; exact List.mem_cons_self
      obtain ⟨z, h1, h2, h3, _⟩ := fall_dn ht hx ha
      obtain ⟨j, e1, e2, e3, e4⟩ := hk.step ht hx ha
      have wz := wd_sub h1 hx
      have er : row T (x ++ [a]) = row T z := by rw [← e4]; exact h3
      match k, f, e1, hf with
      | k + 1, f + 1, e1, hf =>
        have ej : j = k := by omega
        subst ej
        have ih := spS_head ht j (f := f) wz (by omega) (e2.cong e3 wz er) (by omega)
        rw [if_neg (by simp), List.flatMap_cons]
        rw [← h3] at ih
        rw [List.getElem?_append_left (by rw [List.length_map]; exact (List.getElem?_eq_some_iff.mp ih).1), List.getElem?_map, ih]
        rw [wd_cons e]
        rfl
end BW
set_option maxHeartbeats 1000000
set_option maxHeartbeats 1000000
namespace BW
open PySem L2 DL
def cm (T : Mat) : List Int → List D → Prop
  | _, [] => True
  | w, d :: r => match stp T w d with
    | none => True
    | some (e, v) => ¬(e.isIn = true ∧ 60 < w.length + 2) ∧ cm T v r
end BW
set_option maxHeartbeats 1000000
namespace BW
open PySem L2 DL
def Rn (T : Mat) : List Int → List Deed → List Int → Prop
  | w, [], v => v = w
  | w, e :: r, v => ∃ u, e.fits T.length w.length ∧ mv T w e = some u ∧ (e.isIn = true → w.length + 2 ≤ 30) ∧ Rn T u r v
theorem Rn.snoc {T : Mat} : ∀ {es : List Deed} {w v u : List Int} {e : Deed}, Rn T w es v → e.fits T.length v.length → mv T v e = some u → (e.isIn = true → v.length + 2 ≤ 30) → Rn T w (es ++ [e]) u
  | [], w, v, u, e, h, h1, h2, h3 => by
    have h : v = w := h
    subst h
    exact ⟨u, h1, h2, h3, rfl⟩
  | _ :: r, w, v, u, e, ⟨x, a, b, c, d⟩, h1, h2, h3 => ⟨x, a, b, c, Rn.snoc d h1 h2 h3⟩
theorem stp_of {T : Mat} {w v : List Int} {e : Deed} (he : e.fits T.length w.length) (hv : mv T w e = some v) : stp T w e.d = some (e, v) := by
  have q := stp_deed e he
  rw [hv] at q
  cases o : stp T w e.d with
  | none => rw [o] at q; cases q
  | some z =>
    obtain ⟨e', v'⟩ := z
    rw [o] at q
    cases q
    obtain ⟨_, h1, _, _⟩ := stp_some o
    have h4 := congrArg dOf h1
    rw [dOf_d, dOf_d] at h4
    cases h4
    rfl
theorem Rn.wd {T : Mat} : ∀ {es : List Deed} {w v : List Int}, Rn T w es v → Wd T.length w → Wd T.length v
  | [], w, v, h, hw => by
    have h : v = w := h
    subst h
    exact hw
  | e :: r, w, v, ⟨x, h1, h2, h3, h4⟩, hw => Rn.wd h4 (mv_wd hw h1 h2)
theorem in_no {w : List Int} {e : Deed} (h : e.isIn = true → w.length + 2 ≤ 30) : ¬(e.isIn = true ∧ 60 < w.length + 2) := fun z => by
  have := h z.1
  omega
theorem Rn.wk {T : Mat} : ∀ {es : List Deed} {w v : List Int} {j : Nat}, Rn T w es v → ∃ bs, wk T w (es.map Deed.d) j = .ok v bs
  | [], w, v, j, h => by
    have h : v = w := h
    subst h
    exact ⟨[], rfl⟩
  | e :: r, w, v, j, ⟨x, h1, h2, h3, h4⟩ => by
    obtain ⟨bs, q⟩ := Rn.wk (j := j + 1) h4
    refine ⟨bk w e :: bs, ?_⟩
    rw [List.map_cons, wk_some (stp_of h1 h2) (in_no h3), q]
def bdL : Nat → List Deed → Prop
  | _, [] => True
  | l, .inn _ _ :: r => l + 2 ≤ 30 ∧ bdL (l + 2) r
  | l, .out _ :: r => bdL (l - 2) r
  | l, .turn _ :: r => bdL l r
theorem mv_in_len {T : Mat} {w v : List Int} {k : Nat} {a : Int} (h : mv T w (.inn k a) = some v) : v.length = w.length + 2 := by
  have h : (w.take k ++ [a, a]) ++ w.drop k = v := Option.some.inj h
  subst h
  rw [List.length_append, List.length_append, List.length_take, List.length_drop]
  show min k w.length + 2 + (w.length - k) = _
  omega
theorem mv_out_len {T : Mat} {w v : List Int} {k : Nat} (h : mv T w (.out k) = some v) : v.length = w.length - 2 := by
  rw [mv_out] at h
  split at h
  · rename_i c
    cases h
    rw [List.length_append, List.length_take, List.length_drop]
    omega
  · cases h
theorem mv_turn_len {T : Mat} {w v : List Int} {k : Nat} (h : mv T w (.turn k) = some v) : v.length = w.length := by
  rw [mv_turn] at h
  split at h
  · rename_i c
    split at h
    · rename_i c2
      cases h
      have l := congrArg List.length c2.2
      rw [alt_length, List.length_take, List.length_drop] at l
      rw [List.length_append, List.length_append, alt_length, List.length_take, List.length_drop]
      omega
    · cases h
  · cases h
theorem Rn.bd {T : Mat} : ∀ {es : List Deed} {w v : List Int}, Rn T w es v → bdL w.length es
  | [], w, v, _ => trivial
  | .inn k a :: r, w, v, ⟨x, h1, h2, h3, h4⟩ => ⟨h3 rfl, by rw [← mv_in_len h2]; exact Rn.bd h4⟩
  | .out k :: r, w, v, ⟨x, h1, h2, h3, h4⟩ => by
    show bdL (w.length - 2) r
    rw [← mv_out_len h2]; exact Rn.bd h4
  | .turn k :: r, w, v, ⟨x, h1, h2, h3, h4⟩ => by
    show bdL w.length r
    rw [← mv_turn_len h2]; exact Rn.bd h4
end BW
set_option maxHeartbeats 1000000
namespace BW
open PySem L2 DL
def Ld (T : Mat) : List Int → List Deed → List Int → Prop
  | w, [], v => v = w
  | w, e :: r, v => ∃ u, e.fits T.length w.length ∧ mv T w e = some u ∧ u.length ≤ 60 ∧ Ld T u r v
theorem Ld.app {T : Mat} : ∀ {es fs : List Deed} {w u v : List Int}, Ld T w es u → Ld T u fs v → Ld T w (es ++ fs) v
  | [], fs, w, u, v, h, g => by
    have h : u = w := h
    subst h
    exact g
  | e :: r, fs, w, u, v, ⟨x, a, b, c, d⟩, g => ⟨x, a, b, c, Ld.app d g⟩
end BW
set_option maxHeartbeats 1000000
set_option autoImplicit false
namespace BW
open PySem L2 DL
theorem Ld.wd {T : Mat} : ∀ {es : List Deed} {w v : List Int}, Ld T w es v → Wd T.length w → w.length ≤ 60 → Wd T.length v ∧ v.length ≤ 60
  | [], w, v, h, hw, hl => by
    have h : v = w := h
    subst h
    exact ⟨hw, hl⟩
  | e :: r, w, v, ⟨x, h1, h2, h3, h4⟩, hw, hl => Ld.wd h4 (mv_wd hw h1 h2) h3
theorem ld_no {T : Mat} {w x : List Int} {e : Deed} (h : mv T w e = some x) (l : x.length ≤ 60) : ¬(e.isIn = true ∧ 60 < w.length + 2) := fun z => by
  cases e with
  | inn k a =>
    have := mv_in_len h
    have := z.2
    omega
  | out k => cases z.1
  | turn k => cases z.1
theorem Ld.wk {T : Mat} : ∀ {es : List Deed} {w v : List Int} {j : Nat}, Ld T w es v → ∃ bs, BW.wk T w (es.map Deed.d) j = .ok v bs
  | [], w, v, j, h => by
    have h : v = w := h
    subst h
    exact ⟨[], rfl⟩
  | e :: r, w, v, j, ⟨x, h1, h2, h3, h4⟩ => by
    obtain ⟨bs, q⟩ := Ld.wk (j := j + 1) h4
    refine ⟨bk w e :: bs, ?_⟩
    rw [List.map_cons, wk_some (stp_of h1 h2) (ld_no h2 h3), q]
end BW
set_option maxHeartbeats 1000000
namespace DL
open PySem PySem.Spec PyProof.Rows L2
end DL
set_option maxHeartbeats 1000000
set_option autoImplicit false
namespace BW
open PySem L2 DL
theorem isW.items {d : D} {w : List Int} (h : isW d w) : d.items = some (w.map D.int) := by rcases h with rfl | rfl <;> rfl
end BW
set_option maxHeartbeats 1000000
set_option maxHeartbeats 1000000
set_option maxHeartbeats 1000000
set_option autoImplicit false
set_option maxHeartbeats 1000000
namespace DL
open PySem PySem.Spec PyProof.Rows L2 LamX
open PySem.W (Frag)
section
variable {P : Program} {w : World} {K : Frag} {mg : PySem.Str → Option Value} {base : Heap}
def TTof (K : Frag) (l : List ((PySem.Str × Option PySem.Str) × PySem.Str)) : List (Addr × PySem.Str) := l.map fun x => ((He.cT K x.1).2, x.2)
end
end DL
namespace DL
open PySem L2 L2G
open PySem.W (Frag)
end DL
set_option maxHeartbeats 1000000
set_option maxHeartbeats 1000000
set_option maxHeartbeats 1000000
set_option maxHeartbeats 1000000
set_option maxHeartbeats 1000000
namespace DL
open PySem PySem.Spec PyProof.Rows L2
open PySem.W (Frag)
abbrev typN : List String := ["NoneType", "bool", "int", "str", "list", "tuple", "dict"]
abbrev typR : List String := ["NoneType", "int", "str", "list", "tuple", "dict"]
structure OwnK (K : Frag) (C f : Addr) : Prop where
  cl : Cls K C
  ca : PySem.W.findIn K (.ref C) "__class__" = some (some (.builtin "object.__class__"))
  cg : PySem.W.specialIn K (.builtin "object.__class__") "__get__" = some (some (.builtin "getset_descriptor.__get__"))
  tk : PySem.W.takesIn K (.builtin "object.__class__") = some true
  ob : PySem.W.mroIn K C (.type "object") = some true
  eq : PySem.W.findIn K (.ref C) "__eq__" = some (some (.ref f))
  fn : PySem.W.isFn K (.ref f) = true
  ne : PySem.W.findIn K (.ref C) "__ne__" = some (some (.builtin "object.__ne__"))
  kt : PySem.W.kitOne K (.ref C) (.ref C) = some true
  kf : ∀ T ∈ typN, PySem.W.kitOne K (.type T) (.ref C) = some false
  sf : ∀ T ∈ typR, PySem.W.subIn K (.ref C) (.type T) = some false
  nf : ∀ T ∈ typN, PySem.W.notFirst K C (.type T) = true
end DL
set_option maxHeartbeats 1000000
namespace DL
open PySem PySem.Spec PyProof.Rows L2
open PySem.W (Frag)
section
variable {K : Frag} {c : C} {C f : Addr} {sp : DSp}
theorem OwnK.ty (O : OwnK K C f) {H : Hp} {v : V} {d : D} (r : Rl K H v d) (h : (∃ n ∈ typN, d.tname = some n) ∨ ∃ ns xs, d = .ins C ns xs) : ∃ t, TyX K H v t ∧ PySem.W.notFirst K C t = true := by
  rcases h with ⟨n, hn, e⟩ | ⟨ns, xs, rfl⟩
  · exact ⟨_, r.ty e, O.nf n hn⟩
  · obtain ⟨a, dx, us, rfl, h2, l, r⟩ := r.insE
    exact ⟨_, .base (.ins h2 O.cl O.ca O.cg O.tk O.ob), by simp [PySem.W.notFirst]⟩
end
end DL
set_option maxHeartbeats 1000000
namespace BW
open PySem L2 DL
theorem okE_rows {f : List Int → D} (h1 : ∀ r, (f r).plain = true) (h2 : ∀ r, PyData.canLay0 (f r).py = true) (h3 : ∀ r, PyData.depth (f r).py = 1) : ∀ T : Mat, plainA (T.map f) = true ∧ PyData.canLayAll0 (pyA (T.map f)) = true ∧ PyData.depthAll (pyA (T.map f)) ≤ 1
  | [] => ⟨rfl, rfl, by show 0 ≤ 1; decide⟩
  | r :: T => by
    obtain ⟨a, b, c⟩ := okE_rows h1 h2 h3 T
    refine ⟨?_, ?_, ?_⟩
    · show ((f r).plain && plainA (T.map f)) = true
      rw [h1, a]; rfl
    · show (PyData.canLay0 (f r).py && PyData.canLayAll0 (pyA (T.map f))) = true
      rw [h2, b]; rfl
    · show max (PyData.depth (f r).py) (PyData.depthAll (pyA (T.map f))) ≤ 1
      rw [h3]; omega
theorem okE_mat {f : List Int → D} (h1 : ∀ r, (f r).plain = true) (h2 : ∀ r, PyData.canLay0 (f r).py = true) (h3 : ∀ r, PyData.depth (f r).py = 1) (T : Mat) : (D.lst (T.map f)).okE = true ∧ (D.tup (T.map f)).okE = true := by
  obtain ⟨a, b, c⟩ := okE_rows h1 h2 h3 T
  have q : (plainA (T.map f) && (PyData.canLayAll0 (pyA (T.map f)) && decide (PyData.depthAll (pyA (T.map f)) + 1 ≤ 64))) = true := by
    rw [a, b, decide_eq_true (by omega)]; rfl
  exact ⟨q, q⟩
end BW
set_option maxHeartbeats 1000000
namespace DL
open PySem PySem.Spec PyProof.Rows L2
open PySem.W (Frag)
structure Bld (K : Frag) (X0 : List Addr) (x C dx : Addr) (H0 H : Hp) (ws : List V) (as : List D) (ns : List PySem.Str) (vs : List V) (ds : List D) : Prop where
  at_ : H x = some (.ins C dx (ns.zip vs))
  len : ns.length = vs.length
  ra : RlA K (wo H (x :: X0)) ws as
  rf : RlA K (wo H (x :: X0)) vs ds
  old : ∀ a ∈ X0, H a = H0 a
  sub : Sub (wo H0 (x :: X0)) (wo H (x :: X0))
  tb : TbK H0 H
theorem wo_updh {H : Hp} {x : Addr} {X0 : List Addr} {o : HO} : wo (upd H x o) (x :: X0) = wo H (x :: X0) := by
  funext a
  unfold wo
  by_cases h : a = x
  · subst h
    rw [if_pos List.mem_cons_self, if_pos List.mem_cons_self]
  · rw [upd_ne h]
section
variable {K : Frag} {X0 : List Addr} {x C dx : Addr} {H0 H : Hp} {ws : List V} {as : List D} {ns : List PySem.Str} {vs : List V} {ds : List D}
theorem Bld.step (B : Bld K X0 x C dx H0 H ws as ns vs ds) (hx : x ∉ X0) {H' : Hp} {v : V} {d : D} (own : ∀ a ∈ x :: X0, H' a = H a) (sub : Sub (wo H (x :: X0)) (wo H' (x :: X0))) (tb : TbK H H') (r : Rl K (wo H' (x :: X0)) v d) (f : PySem.Str) :
    H' x = some (.ins C dx (ns.zip vs)) ∧ Bld K X0 x C dx H0 (upd H' x (.ins C dx ((ns ++ [f]).zip (vs ++ [v])))) ws as (ns ++ [f]) (vs ++ [v]) (ds ++ [d]) := by
  have e : H' x = some (.ins C dx (ns.zip vs)) := by rw [own x List.mem_cons_self]; exact B.at_
  refine ⟨e, upd_same, by rw [List.length_append, List.length_append, B.len]; rfl, ?_, ?_, fun a h => ?_, ?_, ?_⟩
  · rw [wo_updh]; exact B.ra.mono sub
  · rw [wo_updh]; exact (B.rf.mono sub).app (.cons r .nil)
  · rw [upd_ne (fun z => hx (by rw [← z]; exact h)), own a (List.mem_cons_of_mem _ h)]; exact B.old a h
  · rw [wo_updh]; exact B.sub.trans sub
  · exact B.tb.trans (tb.trans (TbK.at_ e))
theorem Bld.done (B : Bld K X0 x C dx H0 H ws as ns vs ds) (hx : x ∉ X0) : Sub (wo H0 (x :: X0)) (wo H X0) ∧ Rl K (wo H X0) (.ref x) (.ins C ns ds) := by
  have m : Sub (wo H (x :: X0)) (wo H X0) := wo_more fun a h => List.mem_cons_of_mem _ h
  exact ⟨B.sub.trans m, .ins (wo_of hx B.at_) B.len (B.rf.mono m)⟩
end
end DL
set_option maxHeartbeats 1000000
set_option maxHeartbeats 1000000
namespace BW
open PySem L2 DL
inductive Val : Nat → D → Prop
  | non {n : Nat} : Val n .non
  | bl {n : Nat} (b : Bool) : Val n (.bl b)
  | int {n : Nat} (i : Int) : Val n (.int i)
  | str {n : Nat} {x : PySem.Str} : PyData.strOk x = true → Val n (.str x)
  | tup {n : Nat} {xs : List D} : xs.length ≤ 300000 → (n ≤ 1 → xs.length ≤ 900) → (∀ x ∈ xs, Val n x) → Val (n + 1) (.tup xs)
  | lst {n : Nat} {xs : List D} : xs.length ≤ 300000 → (n ≤ 1 → xs.length ≤ 900) → (∀ x ∈ xs, Val n x) → Val (n + 1) (.lst xs)
theorem Val.up {n : Nat} {d : D} (h : Val n d) : ∀ {m : Nat}, n ≤ m → Val m d := by
  induction h with
  | non => exact fun _ => .non
  | bl b => exact fun _ => .bl b
  | int i => exact fun _ => .int i
  | str h => exact fun _ => .str h
  | @tup n xs h1 h2 h3 ih =>
    intro m hm
    obtain ⟨m, rfl⟩ : ∃ k, m = k + 1 := ⟨m - 1, by omega⟩
    exact .tup h1 (fun z => h2 (by omega)) fun x hx => ih x hx (by omega)
  | @lst n xs h1 h2 h3 ih =>
    intro m hm
    obtain ⟨m, rfl⟩ : ∃ k, m = k + 1 := ⟨m - 1, by omega⟩
    exact .lst h1 (fun z => h2 (by omega)) fun x hx => ih x hx (by omega)
theorem Val.ty {n : Nat} {d : D} (h : Val n d) : d.tname.isSome = true := by cases h <;> rfl
theorem lays17 {n : Nat} : ∀ {xs : List D}, (∀ x ∈ xs, x.plain = true ∧ PyData.canLay0 x.py = true ∧ PyData.depth x.py ≤ n) → plainA xs = true ∧ PyData.canLayAll0 (pyA xs) = true ∧ PyData.depthAll (pyA xs) ≤ n
  | [], _ => ⟨rfl, rfl, Nat.zero_le _⟩
  | x :: r, h => by
    obtain ⟨a, b, c⟩ := lays17 (xs := r) fun z hz => h z (List.mem_cons_of_mem _ hz)
    obtain ⟨a', b', c'⟩ := h x List.mem_cons_self
    refine ⟨?_, ?_, ?_⟩
    · show (x.plain && plainA r) = true
      rw [a', a]; rfl
    · show (PyData.canLay0 x.py && PyData.canLayAll0 (pyA r)) = true
      rw [b', b]; rfl
    · show max (PyData.depth x.py) (PyData.depthAll (pyA r)) ≤ n
      omega
theorem Val.lay {n : Nat} {d : D} (h : Val n d) : d.plain = true ∧ PyData.canLay0 d.py = true ∧ PyData.depth d.py ≤ n := by
  induction h with
  | non => exact ⟨rfl, rfl, Nat.zero_le _⟩
  | bl b => exact ⟨rfl, rfl, Nat.zero_le _⟩
  | int i => exact ⟨rfl, rfl, Nat.zero_le _⟩
  | str h => exact ⟨rfl, h, Nat.zero_le _⟩
  | @tup n xs h1 h2 h3 ih =>
    obtain ⟨a, b, c⟩ := lays17 ih
    exact ⟨a, b, by show PyData.depthAll (pyA xs) + 1 ≤ n + 1; omega⟩
  | @lst n xs h1 h2 h3 ih =>
    obtain ⟨a, b, c⟩ := lays17 ih
    exact ⟨a, b, by show PyData.depthAll (pyA xs) + 1 ≤ n + 1; omega⟩
theorem Val.okE {n : Nat} {d : D} (h : Val n d) (hn : n ≤ 40) : d.okE = true := by
  obtain ⟨a, b, c⟩ := h.lay
  show (d.plain && (PyData.canLay0 d.py && decide (PyData.depth d.py ≤ 64))) = true
  rw [a, b, decide_eq_true (by omega)]; rfl
end BW
set_option maxHeartbeats 1000000
set_option maxHeartbeats 1000000
set_option maxHeartbeats 1000000
set_option autoImplicit false
namespace LamD
open PySem PySem.Spec PyProof.Rows L2 LamX
end LamD
set_option maxHeartbeats 1000000
set_option autoImplicit false
namespace LamD
open PySem PySem.Spec PyProof.Rows L2 LamX
end LamD
set_option maxHeartbeats 1000000
set_option autoImplicit false
namespace LamD
open PySem PySem.Spec PyProof.Rows L2 LamX
end LamD
set_option maxHeartbeats 1000000
set_option autoImplicit false
namespace LamD
open PySem PySem.Spec PyProof.Rows L2 LamX
end LamD
set_option maxHeartbeats 1000000
set_option autoImplicit false
namespace LamD
open PySem PySem.Spec PyProof.Rows L2 LamX
end LamD
set_option maxHeartbeats 1000000
namespace LamD
open PySem
end LamD
namespace DL
open PySem PySem.Spec PyProof.Rows L2 LamX LamD
end DL
set_option maxHeartbeats 1000000
namespace DL
open PySem PySem.Spec PyProof.Rows L2 LamX
end DL
set_option maxHeartbeats 1000000
namespace DL
open PySem PySem.Spec PyProof.Rows L2 LamX LamD
open PySem.W (Frag)
end DL
namespace DL
open PySem L2
open PySem.W (Frag)
end DL
set_option maxHeartbeats 2000000
namespace PySem
end PySem
set_option maxHeartbeats 2000000
namespace DL
open PySem PySem.Spec PyProof.Rows L2
open PySem.W (Frag)
end DL
set_option maxHeartbeats 2000000
namespace DL
open PySem PySem.Spec PyProof.Rows L2
open PySem.W (Frag)
end DL
namespace DL
open PySem L2 L2G
open PySem.W (Frag)
end DL
set_option maxHeartbeats 2000000
namespace DL
open PySem PySem.Spec PyProof.Rows L2
open PySem.W (Frag)
end DL
set_option maxHeartbeats 2000000
namespace DL
open PySem PySem.Spec PyProof.Rows L2
end DL
set_option maxHeartbeats 1000000
namespace BW
open PySem L2 DL
def WdO (T : Mat) (d : D) (k : Nat) (E : D → Nat → Prop) (G : List Int → Prop) : Prop := (∃ x, BadW T.length d x ∧ E x k) ∨ ∃ w, isW d w ∧ w.length ≤ 60 ∧ Wd T.length w ∧ G w
theorem WdO.imp {T : Mat} {d : D} {k : Nat} {E : D → Nat → Prop} {G G' : List Int → Prop} (h : WdO T d k E G) (f : ∀ w, Wd T.length w → w.length ≤ 60 → G w → G' w) : WdO T d k E G' := Or.imp id (fun ⟨w, a, b, c, g⟩ => ⟨w, a, b, c, f w c b g⟩) h
end BW
namespace BW
open PySem L2 DL
theorem Mx.snoc {H : Hp} {D q : Addr} {qs : List Addr} {M : Mat} {r : List Int} (mx : Mx H D qs M) (fq : H q = none) : Mx (upd (upd H q (.lst (r.map V.int))) D (.lst ((qs ++ [q]).map V.ref))) D (qs ++ [q]) (M ++ [r]) := by
  have nDq : D ≠ q := fun z => by have := mx.top; rw [z, fq] at this; cases this
  have nqs : q ∉ qs := fun z => by
    obtain ⟨j, hj⟩ := List.getElem?_of_mem z
    have hj2 : j < M.length := by have := (List.getElem?_eq_some_iff.mp hj).1; rw [mx.len] at this; exact this
    have := mx.row j q _ hj (List.getElem?_eq_getElem hj2)
    rw [fq] at this
    cases this
  refine ⟨upd_same, by rw [List.length_append, List.length_append, mx.len]; rfl, fun j b r' hb hr => ?_, ?_, ?_⟩
  · have nbD : b ≠ D := fun z => by
      rcases List.mem_append.mp (List.mem_of_getElem? hb) with h2 | h2
      · exact mx.out (z ▸ h2)
      · rw [List.mem_singleton] at h2
        exact nDq (z ▸ h2)
    rw [upd_ne nbD]
    by_cases hj : j < qs.length
    · rw [List.getElem?_append_left hj] at hb
      rw [List.getElem?_append_left (by rw [← mx.len]; exact hj)] at hr
      have nb : b ≠ q := fun z => nqs (z ▸ List.mem_of_getElem? hb)
      rw [upd_ne nb]
      exact mx.row j b r' hb hr
    · rw [List.getElem?_append_right (by omega)] at hb
      rw [List.getElem?_append_right (by rw [← mx.len]; omega), ← mx.len] at hr
      have ej : j - qs.length = 0 := by
        have := (List.getElem?_eq_some_iff.mp hb).1
        rw [List.length_singleton] at this
        omega
      rw [ej] at hb hr
      cases hb
      cases hr
      exact upd_same
  · exact List.nodup_append.mpr ⟨mx.nd, by simp, fun a ha b hb => by
      rw [List.mem_singleton] at hb
      subst hb
      exact fun z => nqs (z ▸ ha)⟩
  · intro z
    rcases List.mem_append.mp z with z | z
    · exact mx.out z
    · rw [List.mem_singleton] at z
      exact nDq z
abbrev AL (v : Int) : Prop := v = 2 ∨ v = 3 ∨ v = 4 ∨ v = 6 ∨ v = 0
structure Gq (f : Nat → Nat → Int) (a b : Nat) : Prop where
  dg : ∀ i, f i i = 1
  sy : ∀ i j, f i j = f j i
  of : ∀ i j, j < i → (i < a ∨ (i = a ∧ j < b)) → AL (f i j)
theorem Gq.next {f : Nat → Nat → Int} {a : Nat} (g : Gq f a a) : Gq f (a + 1) 0 := ⟨g.dg, g.sy, fun i j h z => g.of i j h (by omega)⟩
theorem Gq.sw {f : Nat → Nat → Int} {a b : Nat} (g : Gq f a b) (hb : b < a) {v : Int} (hv : AL v) : Gq (fsw f a b v) a (b + 1) := by
  refine ⟨fun i => ?_, fun i j => ?_, fun i j h z => ?_⟩
  · unfold fsw
    rw [if_neg (by omega)]
    exact g.dg i
  · unfold fsw
    by_cases h : (i = a ∧ j = b) ∨ (i = b ∧ j = a)
    · rw [if_pos h, if_pos (by omega)]
    · rw [if_neg h, if_neg (by omega)]
      exact g.sy i j
  · unfold fsw
    by_cases c : (i = a ∧ j = b) ∨ (i = b ∧ j = a)
    · rw [if_pos c]; exact hv
    · rw [if_neg c]
      exact g.of i j h (by omega)
structure S9 (m : Mc) (n : Nat) (u2 : V) (p : Addr) (σ : L2.St) : Prop where
  len : σ.length = 8
  e0 : σ[0]? = some (some (.ref m.pm))
  e1 : σ[1]? = some (some (.int n))
  e2 : σ[2]? = some (some u2)
  e3 : σ[3]? = some (some (.ref p))
  kd : m.kd = none
theorem S9.set {m : Mc} {n : Nat} {u2 : V} {p : Addr} {σ : L2.St} (h : S9 m n u2 p σ) {i : Nat} (hi : 4 ≤ i) (v : Option V) : S9 m n u2 p (σ.set i v) :=
  ⟨by rw [List.length_set]; exact h.len, by rw [List.getElem?_set_ne (by omega)]; exact h.e0, by rw [List.getElem?_set_ne (by omega)]; exact h.e1, by rw [List.getElem?_set_ne (by omega)]; exact h.e2, by rw [List.getElem?_set_ne (by omega)]; exact h.e3, h.kd⟩
end BW
set_option maxHeartbeats 1000000
set_option maxHeartbeats 1000000
set_option maxHeartbeats 1000000
namespace BW
open PySem L2 DL
inductive Dm : Nat → D → Prop
  | non {n : Nat} : Dm n .non
  | bl {n : Nat} (b : Bool) : Dm n (.bl b)
  | int {n : Nat} (i : Int) : Dm n (.int i)
  | str {n : Nat} {x : PySem.Str} : PyData.strOk x = true → Dm n (.str x)
  | tup {n : Nat} {xs : List D} : xs.length ≤ 210000 → (n = 0 → xs.length ≤ 800) → (∀ x ∈ xs, Dm n x) → Dm (n + 1) (.tup xs)
theorem Dm.val {n : Nat} {d : D} (h : Dm n d) : Val (n + 1) d := by
  induction h with
  | non => exact .non
  | bl b => exact .bl b
  | int i => exact .int i
  | str h => exact .str h
  | @tup n xs h1 h2 h3 ih => exact .tup (by omega) (fun z => Nat.le_trans (h2 (by omega)) (by decide)) ih
theorem Dm.up {n : Nat} {d : D} (h : Dm n d) : ∀ {m : Nat}, n ≤ m → Dm m d := by
  induction h with
  | non => exact fun _ => .non
  | bl b => exact fun _ => .bl b
  | int i => exact fun _ => .int i
  | str h => exact fun _ => .str h
  | @tup n xs h1 h2 h3 ih =>
    intro m hm
    obtain ⟨m, rfl⟩ : ∃ k, m = k + 1 := ⟨m - 1, by omega⟩
    exact .tup h1 (fun z => h2 (by omega)) fun x hx => ih x hx (by omega)
end BW
set_option maxHeartbeats 1000000
namespace DL
open PySem L2
open PySem.W (Frag dataLe AllAlike Sortable)
open PySem.W (EachIs)
theorem each_vals : ∀ {zs : List (V × PyData)} {its : List Value}, Vals (zs.map (·.1)) its → EachIs (fun u (z : V × PyData) => RelV z.1 u) its zs
  | [], _, r => by cases r; exact .nil
  | z :: zs, _, r => by
    cases r with
    | cons h t => exact .cons h (each_vals t)
theorem vals_each : ∀ {zs : List (V × PyData)} {its : List Value}, EachIs (fun u (z : V × PyData) => RelV z.1 u) its zs → Vals (zs.map (·.1)) its
  | [], _, r => by cases r; exact .nil
  | z :: zs, _, r => by
    cases r with
    | cons h t => exact .cons h (vals_each t)
theorem each_reads {X : Cx} {pins : List (Addr × Obj)} {σ : L2.St} {H : Hp} {s : Shared} (I : L2.Inv X pins σ H s) : ∀ {zs : List (V × PyData)} {its : List Value}, Vals (zs.map (·.1)) its → (∀ z ∈ zs, Dp X.K H z.1 z.2) → EachIs (fun v (b : V × PyData) => ∃ as, Reads s.heap v b.2 as) its zs
  | [], _, r, _ => by cases r; exact .nil
  | z :: zs, _, r, h => by
    cases r with
    | cons h1 t => exact .cons (Dp.reads I z.2 _ _ (h z List.mem_cons_self) h1) (each_reads I t fun y hy => h y (List.mem_cons_of_mem _ hy))
theorem cr_sortedD {X : Cx} (hu : X.A.units + 64 < cLine) : CallR X (.builtin "sorted") (fun vs H Q => ∃ (a : Addr) (zs : List (V × PyData)), vs = [V.ref a] ∧ SqL X.K H a (zs.map (·.1)) ∧ (∀ z ∈ zs, Dp X.K H z.1 z.2) ∧ AllAlike (zs.map (·.2)) ∧ Sortable (zs.map (·.2)) ∧ zs.length ≤ sizeLine ∧ (∀ z ∈ zs, z.2.depth ≤ 60) ∧
    ∀ p, H p = none → Q (V.ref p) (upd H p (.lst ((zs.mergeSort (dataLe false (Prod.snd : V × PyData → PyData))).map (·.1))))) := by
  intro pins s σ H vs us Q I r h
  obtain ⟨a, zs, rfl, hs, hd, hal, hk, hl, hdep, q⟩ := h
  obtain ⟨its, rv, hli, _⟩ := I.list hs
  rw [Vals.ref1 r]
  refine PySem.W.sorted_data (R := fun u (z : V × PyData) => RelV z.1 u) (bs := zs) (enc := (Prod.snd : V × PyData → PyData)) hli.isList (each_vals rv) (each_reads I rv hd) hal hk hl (fun b hb => by have := hdep b hb; omega) fun out ho eo => ?_
  obtain ⟨ep, he'⟩ := PyProof.Rows.sortedAll_at s.heap its out.toArray
  have vo := vals_each eo
  have hlen : ((zs.mergeSort (dataLe false (Prod.snd : V × PyData → PyData))).map (·.1)).length ≤ sizeLine := by rw [List.length_map, List.length_mergeSort]; exact hl
  exact ⟨.ref _, upd H (s.heap.objs.size + 1) (.lst ((zs.mergeSort (dataLe false (Prod.snd : V × PyData → PyData))).map (·.1))), I.laid (t' := s.toks) (fun _ _ => PyProof.Rows.sortedAll_old) (Nat.le_succ _) ⟨hlen, out, ep, vo, he'⟩, rfl, q _ (I.hok.fresh (Nat.le_succ _))⟩
end DL
namespace DL
open PySem L2
open PySem.W (Frag dataLe AllAlike Sortable)
end DL
set_option maxHeartbeats 1000000
namespace DL
open PySem PySem.Spec PyProof.Rows L2 LamX
open PySem.W (Frag dataLe AllAlike Sortable EachIs KeyPure)
end DL
set_option maxHeartbeats 1000000
namespace DL
open PySem PySem.Spec PyProof.Rows L2 LamX
open PySem.W (Frag dataLe AllAlike Sortable EachIs KeyPure)
abbrev tIs (w : List Int) : D := .tup (w.map D.int)
end DL
set_option maxHeartbeats 1000000
namespace DL
open PySem L2
open PySem.W (Frag)
end DL
set_option maxHeartbeats 1000000
namespace BW
open PySem L2 DL
abbrev sV (BC : Addr) (T : Mat) (w v : List Int) (x5 x6 x7 x8 x9 x10 x11 x12 : Sl) : List Sl := [.mst, .dat (bnd BC T), .dat (lM T), .dat (tI w), .dat (tI v), x5, x6, x7, x8, x9, x10, x11, x12]
end BW
set_option maxHeartbeats 1000000
set_option maxHeartbeats 1000000
set_option maxHeartbeats 1000000
namespace BW
open PySem L2 DL
def adj (T : Mat) (a b : Int) : Bool := decide (at2 T (ix a) (ix b) ≠ 2)
inductive Rch (T : Mat) (c : List Int) (a : Int) : Int → Prop
  | refl : Rch T c a a
  | step {x y : Int} : Rch T c a x → y ∈ c → adj T y x = true → Rch T c a y
def grow (T : Mat) (c S : List Int) : List Int := c.filter fun y => S.contains y || S.any fun x => adj T y x
def grown (T : Mat) (c : List Int) : Nat → List Int → List Int
  | 0, S => S
  | n + 1, S => grown T c n (grow T c S)
def pc (T : Mat) (c : List Int) (a : Int) : List Int := grown T c c.length (c.filter fun x => x == a)
theorem adj_symm {T : Mat} (ht : Tab T) {a b : Int} (ha : 1 ≤ a ∧ a ≤ T.length) (hb : 1 ≤ b ∧ b ≤ T.length) : adj T a b = adj T b a := by
  unfold adj
  rw [ht.sy (ix a) (ix b) (by show (a - 1).toNat < _; omega) (by show (b - 1).toNat < _; omega)]
theorem Rch.mem {T : Mat} {c : List Int} {a x : Int} (ha : a ∈ c) (r : Rch T c a x) : x ∈ c := by
  cases r with
  | refl => exact ha
  | step _ h _ => exact h
theorem Rch.trans {T : Mat} {c : List Int} {a x y : Int} (r : Rch T c a x) (q : Rch T c x y) : Rch T c a y := by
  induction q with
  | refl => exact r
  | step _ h1 h2 ih => exact .step ih h1 h2
theorem Rch.symm {T : Mat} (ht : Tab T) {c : List Int} (hw : Wd T.length c) {a x : Int} (ha : a ∈ c) (r : Rch T c a x) : Rch T c x a := by
  induction r with
  | refl => exact .refl
  | @step y z r h1 h2 ih =>
    have hy := r.mem ha
    refine Rch.trans (.step .refl hy ?_) ih
    rw [adj_symm ht (hw _ hy) (hw _ h1)]
    exact h2
theorem Rch.mono {T : Mat} {c d : List Int} (h : ∀ x ∈ c, x ∈ d) {a x : Int} (r : Rch T c a x) : Rch T d a x := by
  induction r with
  | refl => exact .refl
  | step _ h1 h2 ih => exact .step ih (h _ h1) h2
end BW
set_option maxHeartbeats 1000000
namespace DL
open PySem PySem.Spec PyProof.Rows L2
open PySem.W (Frag dataLe AllAlike Sortable EachIs alike alikeAll)
abbrev pyI (w : List Int) : PyData := .tuple (w.map .int)
abbrev leP : Addr × List Int → Addr × List Int → Bool := dataLe false fun q => pyI q.2
abbrev leI : List Int → List Int → Bool := dataLe false pyI
theorem alike_pyI (a b : List Int) : alike (pyI a) (pyI b) = true := by
  show alikeAll (a.map .int) (b.map .int) = true
  exact PySem.W.alike_ints a b
theorem RlA.ofTups {K : Frag} {H : Hp} : ∀ {ks : List (Addr × List Int)}, (∀ p ∈ ks, SqT K H p.1 (p.2.map V.int)) → RlA K H (ks.map fun p => V.ref p.1) (ks.map fun p => D.tup (p.2.map .int))
  | [], _ => .nil
  | p :: ks, h => .cons (.tup (h p List.mem_cons_self) (RlA.ints _)) (RlA.ofTups fun q hq => h q (List.mem_cons_of_mem _ hq))
end DL
set_option maxHeartbeats 1600000
namespace DL
open PySem PySem.Spec PyProof.Rows L2 PpSet
open PySem.W (Frag)
end DL
set_option maxHeartbeats 1600000
namespace DL
open PySem PySem.Spec PyProof.Rows L2
open PySem.W (Frag)
end DL
namespace DL
open PySem L2
open PySem.W (Frag)
theorem rev_at {n i : Nat} {d : D} (h : (rngD 0 n).reverse[i]? = some d) : i < n ∧ d = .int ((n : Int) - 1 - i) := by
  have hi : i < n := by
    have := (List.getElem?_eq_some_iff.mp h).1
    rw [List.length_reverse, rngD_len] at this
    exact this
  refine ⟨hi, ?_⟩
  rw [List.getElem?_reverse (by rw [rngD_len]; exact hi), rngD_len] at h
  obtain ⟨h1, rfl⟩ := rngD_at h
  congr 1
  omega
theorem Yl.rev {c : C} {s0 : S} {Hs : Hp} {n : Nat} : Yl c s0 Hs (Itc ((n : Int) - 1) (-1) n) (rngD 0 n).reverse := fun i s σ H rp _ => by
  refine ⟨fun h => by rw [List.length_reverse, rngD_len] at h; exact h, fun d hd => ?_⟩
  obtain ⟨hi, rfl⟩ := rev_at hd
  refine ⟨hi, fun x H' ⟨e1, e2⟩ => ?_⟩
  subst e1 e2
  refine ⟨rp, AdvE.refl, ?_⟩
  rw [show (n : Int) - 1 + (i : Nat) * (-1) = (n : Int) - 1 - i by omega]
  exact .int _
end DL
namespace DL
open PySem L2
open PySem.W (Frag)
end DL
set_option maxHeartbeats 1000000
set_option maxHeartbeats 1000000
set_option maxHeartbeats 1000000
namespace BW
open PySem L2 DL
open PySem.W (dataLe AllAlike Sortable dataLt rowLt)
theorem leI_eq (a b : List Int) : leI a b = decide (a ≤ b) := by
  show (!dataLt (.tuple (b.map .int)) (.tuple (a.map .int))) = _
  rw [PySem.W.dataLt_tuple]
  show (!rowLt (b.map .int) (a.map .int)) = _
  rw [PySem.W.dataLt_ints]
  by_cases h : b < a
  · have h' : ¬ a ≤ b := fun r => List.not_lt.mpr r h
    simp [h, h']
  · have h' : a ≤ b := List.not_lt.mp h
    simp [h, h']
theorem sort_pw (L : List (List Int)) : (L.mergeSort leI).Pairwise (· ≤ ·) := by
  refine (List.pairwise_mergeSort (le := leI) (fun a b c h1 h2 => ?_) (fun a b => ?_) L).imp fun h => ?_
  · rw [leI_eq] at *
    exact decide_eq_true (List.le_trans (of_decide_eq_true h1) (of_decide_eq_true h2))
  · rw [leI_eq, leI_eq]
    rcases List.le_total a b with h | h
    · rw [decide_eq_true h]; rfl
    · rw [decide_eq_true h, Bool.or_true]
  · rw [leI_eq] at h
    exact of_decide_eq_true h
theorem sort_same {L M : List (List Int)} (h1 : L.Nodup) (h2 : M.Nodup) (h : ∀ w, w ∈ L ↔ w ∈ M) : L.mergeSort leI = M.mergeSort leI := by
  refine List.Perm.eq_of_pairwise (le := fun a b : List Int => a ≤ b) (fun a b _ _ h1 h2 => List.le_antisymm h1 h2) (sort_pw L) (sort_pw M) ?_
  exact ((List.mergeSort_perm L leI).trans ((List.perm_ext_iff_of_nodup h1 h2).mpr h)).trans (List.mergeSort_perm M leI).symm
end BW
set_option maxHeartbeats 1000000
namespace BW
open PySem L2 DL
def CloT (T : Mat) (u : List Int) (K : List (List Int)) : Prop := ∀ k v, mv T u (.turn k) = some v → v ∈ K
theorem tn_in {T : Mat} (ht : Tab T) {K : List (List Int)} (hK : ∀ u ∈ K, CloT T u K) {u v : List Int} (h : Tn T u v) : u ∈ K → v ∈ K := by
  induction h with
  | refl => exact id
  | step s _ ih =>
    intro hu
    obtain ⟨p, z, i, j, hi, hj, ne, h0, rfl, rfl⟩ := s
    exact ih (hK _ hu p.length _ (mv_suf (turn_at ht hi hj ne h0)))
theorem mem_spS {T : Mat} (ht : Tab T) {w : List Int} (hw : Wd T.length w) (hl : w.length ≤ 60) {u : List Int} : u ∈ spS T (row T w.reverse) ↔ Wd T.length u ∧ row T u = row T w ∧ Sh T u := by
  have hlr : w.reverse.length ≤ 60 := by rw [List.length_reverse]; exact hl
  constructor
  · intro hu
    have s := spS_spl ht w.length (wd_rev hw) (by rw [List.length_reverse]; exact Nat.le_refl _) hl u hu
    have ln := s.ln.rev ht (wd_rev hw)
    rw [List.reverse_reverse] at ln
    have er := spl_row ht hw s
    exact ⟨s.wd, er, ln.cong hw s.wd er.symm⟩
  · rintro ⟨wu, er, su⟩
    refine spl_mem ht u (wd_rev hw) hlr ⟨wu, (su.cong wu hw er).rev ht hw, ?_⟩
    have e1 := row_rev ht wu hw er
    have e2 : row T (u.reverse ++ w.reverse.reverse) = row T [] := row_back ht (wd_rev hw) (by rw [e1]; rfl)
    rw [List.reverse_reverse] at e2
    have e3 := row_rev ht (wd_app (wd_rev wu) hw) (fun a ha => absurd ha (by simp)) e2
    rw [List.reverse_append, List.reverse_reverse] at e3
    exact e3
theorem turn_k {T : Mat} {u v : List Int} {k : Nat} (h : mv T u (.turn k) = some v) : k + 1 < u.length := by
  rw [mv_turn] at h
  split at h
  · rename_i c
    exact c.1
  · cases h
theorem turn_spS {T : Mat} (ht : Tab T) {w : List Int} (hw : Wd T.length w) (hl : w.length ≤ 60) {u v : List Int} {k : Nat} (hu : u ∈ spS T (row T w.reverse)) (h : mv T u (.turn k) = some v) : v ∈ spS T (row T w.reverse) := by
  obtain ⟨wu, er, su⟩ := (mem_spS ht hw hl).mp hu
  have kl := turn_k h
  have ft : (Deed.turn k).fits T.length u.length := trivial
  have wv := mv_wd wu ft h
  have rv := mv_row ht wu ft h
  have lv := mv_turn_len h
  refine (mem_spS ht hw hl).mpr ⟨wv, rv.trans er, ?_⟩
  have := su.cong wu wv rv.symm
  show LN T v v.length
  rw [lv]
  exact this
theorem lexLt_lt : ∀ {u v : List Int}, HT.lexLt u v = true → u < v
  | [], [], h => by cases h
  | [], b :: v, _ => List.nil_lt_cons b v
  | a :: u, [], h => by cases h
  | a :: u, b :: v, h => by
    rw [HT.lexLt_cons] at h
    refine List.cons_lt_cons_iff.mpr ?_
    by_cases c : a = b
    · rw [if_pos c] at h
      exact .inr ⟨c, lexLt_lt h⟩
    · rw [if_neg c] at h
      exact .inl (of_decide_eq_true h)
theorem lexLt_le {u v : List Int} (h : HT.lexLt u v = true) : u ≤ v := List.le_of_lt (lexLt_lt h)
theorem spS_sort (T : Mat) (r : List Int) : (spS T r).mergeSort leI = spS T r := by
  refine List.mergeSort_of_pairwise ?_
  refine (spS_asc T r).imp fun {u v} h => ?_
  rw [leI_eq]
  exact decide_eq_true (lexLt_le h)
theorem reach_all {T : Mat} (ht : Tab T) {w y : List Int} (hw : Wd T.length w) (hl : w.length ≤ 60) {K : List (List Int)} (nd : K.Nodup) (hK : ∀ u ∈ K, u ∈ spS T (row T w.reverse)) (hy : y ∈ K) (cl : ∀ u ∈ K, CloT T u K) : K.mergeSort leI = spS T (row T w.reverse) := by
  rw [← spS_sort T (row T w.reverse)]
  refine sort_same nd (spS_nodup T _) fun v => ⟨hK v, fun hv => ?_⟩
  obtain ⟨wy, ey, sy⟩ := (mem_spS ht hw hl).mp (hK y hy)
  obtain ⟨wv, ev, sv⟩ := (mem_spS ht hw hl).mp hv
  exact tn_in ht cl (matsumoto ht y.length rfl wy wv sy sv (ey.trans ev.symm)) hy
end BW
namespace BS
open PySem PySem.Spec PyProof.Rows L2
def Msk (m : Nat) : Prop := ∃ e, 3 ≤ e ∧ e ≤ 13 ∧ m + 1 = 2 ^ e ∧ e % 2 = 1
theorem Msk.odd {m : Nat} (h : Msk m) : m % 2 = 1 := by
  obtain ⟨e, h1, _, h2, _⟩ := h
  obtain ⟨e, rfl⟩ : ∃ k, e = k + 1 := ⟨e - 1, by omega⟩
  rw [Nat.pow_succ] at h2
  omega
theorem Msk.le {m : Nat} (h : Msk m) : m ≤ 8191 := by
  obtain ⟨e, _, h1, h2, _⟩ := h
  have := Nat.pow_le_pow_right (n := 2) (by decide) h1
  have e2 : (2 : Nat) ^ 13 = 8192 := by decide
  omega
end BS
namespace BS
open PySem PySem.Spec PyProof.Rows L2
structure Tb (t : SetTable) (hs : List Int) : Prop where
  up : Ris t.place.toList
  nd : t.dummies = #[]
  len : t.place.toList.length = hs.length
  msk : Msk t.mask
  top : ∀ x ∈ t.place.toList, x ≤ t.mask
  found : ∀ (i : Nat) (g : Int) (j : Nat), hs[i]? = some g → t.place.toList[i]? = some j → ∃ k, way t.mask g k = j ∧ ∀ q, q < k → way t.mask g q ∈ t.place.toList
theorem Tb.ahead {t : SetTable} {hs : List Int} (T : Tb t hs) {g : Int} {K i j : Nat} (empty : way t.mask g K ∉ t.place.toList) (hi : hs[i]? = some g) (hj : t.place.toList[i]? = some j) : ∃ q, q < K ∧ way t.mask g q = j := by
  obtain ⟨q, e, b⟩ := T.found i g j hi hj
  have ne : q ≠ K := fun z => by
    rw [← z, e] at empty
    exact empty (List.mem_of_getElem? hj)
  have nl : ¬ K < q := fun z => empty (b K z)
  exact ⟨q, by omega, e⟩
end BS
set_option maxHeartbeats 1000000
namespace BS
open PySem PySem.Spec PyProof.Rows L2
structure SB (P : Program) (w : World) (h : Heap) (a : Addr) (L : List (Addr × List Int)) (es : Array (Int × Value)) (ep : Nat) (t : SetTable) : Prop where
  obj : ∃ o, h.get? a = some o ∧ o.ExactSet ∧ o.data = .set es ep t
  ent : es.toList = rowsOf P w L
  tbl : Tb t (L.map fun p => thash P w p.2)
  once : (L.map (·.2)).Nodup
  keys : ∀ p ∈ L, IsT P w h p.2 p.1
  pl : t.plain = true
  ld : w.params.followText "set-order" = true ∨ t.led = true
  roomy : L.length * 5 < t.mask * 3
  small : L.length < 4096
section
variable {P : Program} {w : World} {A : Around} {E : Value → Shared → Prop} {s : Shared} {a : Addr} {L : List (Addr × List Int)} {es : Array (Int × Value)} {ep : Nat} {t : SetTable}
theorem ent_size (e : es.toList = rowsOf P w L) : es.size = L.length := by
  have := congrArg List.length e
  unfold rowsOf at this
  rwa [Array.length_toList, List.length_map] at this
theorem fits_of {hs : List Int} (T : Tb t hs) {n : Nat} (e : n = hs.length) (few : n ≤ t.mask) : t.fits n = true := by
  have l := T.len
  rw [Array.length_toList] at l
  unfold SetTable.fits SetTable.fill
  rw [T.nd, Bool.and_eq_true, beq_iff_eq, decide_eq_true_eq]
  exact ⟨by rw [l, e], by show t.place.size + 0 ≤ t.mask; omega⟩
theorem SB.fit (S : SB P w s.heap a L es ep t) : t.fits es.size = true := by
  have := S.roomy
  exact fits_of S.tbl (by rw [List.length_map]; exact ent_size S.ent) (by rw [ent_size S.ent]; omega)
theorem SB.get (S : SB P w s.heap a L es ep t) {i : Nat} {p : Addr × List Int} (h : L[i]? = some p) : es[i]? = some (thash P w p.2, Value.ref p.1) := by
  rw [← Array.getElem?_toList, S.ent]
  unfold rowsOf
  rw [List.getElem?_map, h]; rfl
theorem SB.way_of (S : SB P w s.heap a L es ep t) {i : Nat} {p : Addr × List Int} (h : L[i]? = some p) : ∃ j, t.place.toList[i]? = some j := by
  have l := S.tbl.len
  rw [List.length_map] at l
  exact ⟨_, List.getElem?_eq_getElem (by rw [l]; exact (List.getElem?_eq_some_iff.mp h).1)⟩
abbrev st0 (t : SetTable) (g : Int) : SetTable.Probe := runAt t.mask (SetTable.bits g % (t.mask + 1)) (SetTable.bits g)
theorem no_dummy (m : Nat) : ∀ (n : Nat) {p : SetTable.Probe}, p.dummy = none → (nth m p n).dummy = none
  | 0, _, h => h
  | n + 1, p, h => no_dummy m n (p := adv m p) (by unfold adv; split <;> exact h)
theorem look (S : SB P w s.heap a L es ep t) {x : Addr} {k : List Int} (hx : IsT P w s.heap k x) (hu : A.units < cLine) {K : Nat} (Kf : K < 10 * SetTable.turns t.mask) (gap : way t.mask (thash P w k) K ∉ t.place.toList) (full : ∀ q, q < K → way t.mask (thash P w k) q ∈ t.place.toList) {Q : SetFound → Shared → Prop}
    (there : k ∈ L.map (·.2) → Q (.there none) s) (away : k ∉ L.map (·.2) → Q (.free (way t.mask (thash P w k) K) false) s) :
    ∀ (n c : Nat) (stand : Option SetTable.Probe), stand.getD (t.probeStart (thash P w k)) = nth t.mask (st0 t (thash P w k)) c → c ≤ K → K - c < n → (∀ (q i : Nat) (p : Addr × List Int), q < c → t.place.toList[i]? = some (way t.mask (thash P w k) q) → L[i]? = some p → p.2 ≠ k) →
      wpAny (model P w) A (setSearchFrom a (.ref x) (thash P w k) true n stand) Q E s
  | 0, c, _, _, _, hf, _ => absurd hf (Nat.not_lt_zero _)
  | n + 1, c, stand, hst, hc, hf, seen => by
    obtain ⟨o, ho, hex, hd⟩ := S.obj
    have shift : ∀ q, nth t.mask (nth t.mask (st0 t (thash P w k)) c) q = nth t.mask (st0 t (thash P w k)) (c + q) := fun q => (nth_add t.mask c _ q).symm
    have wsh : ∀ q, (nth t.mask (nth t.mask (st0 t (thash P w k)) c) q).j = way t.mask (thash P w k) (c + q) := fun q => congrArg SetTable.Probe.j (shift q)
    have hashAt : ∀ {i : Nat} {p : Addr × List Int}, L[i]? = some p → ((es[i]?.map (·.1)).getD 0) = thash P w p.2 := fun hp => by rw [S.get hp]; rfl
    have told := go_spec t S.tbl.up S.tbl.nd (fun i => (es[i]?.map (·.1)).getD 0) (thash P w k) (10 * SetTable.turns t.mask) (K - c) (nth t.mask (st0 t (thash P w k)) c) (no_dummy t.mask c rfl) (by omega)
      (fun q hq => by rw [wsh]; exact full _ (by omega)) (by rw [wsh, Nat.add_sub_cancel' hc]; exact gap)
    rw [setSearchFrom_succ]
    refine wpAny_bind (wpAny_setState_of ho hd S.fit ?_)
    dsimp only
    refine wp_if_neg (by unfold SetTable.gaveWay; rw [S.tbl.msk.odd]; decide) ?_
    try refine wpAny_bind (wpAny_pure ?_)
    rcases told with ⟨q, i, hq, hi, hh, before, pr⟩ | ⟨none_, pr⟩
    · -- an entry of this hash
      rw [show t.probe (fun i => (es[i]?.map (·.1)).getD 0) (thash P w k) (stand.getD (t.probeStart (thash P w k))) = some (.candidate (way t.mask (thash P w k) (c + q)) i (nth t.mask (st0 t (thash P w k)) (c + (q + 1)))) by rw [hst, ← wsh, ← shift]; exact pr]
      dsimp only
      rw [wsh] at hi
      have il : i < L.length := by
        have l := S.tbl.len
        rw [List.length_map] at l
        rw [← l]
        exact (List.getElem?_eq_some_iff.mp hi).1
      obtain ⟨p, hp⟩ : ∃ p, L[i]? = some p := ⟨_, List.getElem?_eq_getElem il⟩
      have pm := List.mem_of_getElem? hp
      have live : t.slot (way t.mask (thash P w k) (c + q)) = .live i := slot_live S.tbl.up hi
      have rest : wpAny (model P w) A (searchRest a (.ref x) (thash P w k) true n es t (way t.mask (thash P w k) (c + q)) i (nth t.mask (st0 t (thash P w k)) (c + (q + 1)))) Q E s := by
        unfold searchRest
        rw [S.get hp]
        dsimp only
        refine wpAny_bind (wpAny_holding (wpAny_eqBool_tuple hu (S.keys p pm) hx ?_))
        refine wpAny_bind (wpAny_setState_of ho hd S.fit ?_)
        dsimp only
        by_cases same : p.2 = k
        · exact wp_if_pos (by simp [same]) (wpAny_pure (there (List.mem_map.mpr ⟨p, pm, same⟩)))
        · refine wp_if_neg (by simp [same]) ?_
          try refine wpAny_bind (wpAny_pure ?_)
          rw [sameMem]
          dsimp only
          simp only [if_true, live, S.get hp]
          refine wpAny_bind (wpAny_isSame_ref_self (wpAny_bind (wpAny_pure ?_)))
          simp only [if_true]
          refine wp_if_neg (by simp [same]) ?_
          refine look S hx hu Kf gap full there away n (c + (q + 1)) _ rfl (by omega) (by omega) fun q' i' p' hq' hi' hp' e => ?_
          by_cases c1 : q' < c
          · exact seen q' i' p' c1 hi' hp' e
          · by_cases c2 : q' < c + q
            · refine before (q' - c) i' (by omega) (by rw [wsh, show c + (q' - c) = q' by omega]; exact hi') ?_
              show ((es[i']?.map (·.1)).getD 0) = _
              rw [hashAt hp', e]
            · have : q' = c + q := by omega
              subst this
              have s2 := slot_live S.tbl.up hi'
              rw [live] at s2
              injection s2 with s2
              subst s2
              rw [hp] at hp'
              cases hp'
              exact same e
      by_cases hl : t.led = true
      · refine wp_if_neg (by simp [hl]) ?_
        try refine wpAny_bind (wpAny_pure ?_)
        exact rest
      · refine wp_if_pos (by simp [hl]) (wpAny_bind (seen_tup hx (fun y hy => ?_) ?_))
        · obtain ⟨z, hz, rfl⟩ := List.mem_map.mp hy
          have hz1 : z ∈ es.toList := by
            have : z ∈ es ∧ z.1 = thash P w k := by simpa using hz
            simpa using this.1
          rw [S.ent] at hz1
          obtain ⟨p2, hp2, rfl⟩ := List.mem_map.mp hz1
          exact ⟨p2.2, p2.1, rfl, S.keys p2 hp2⟩
        · refine wp_if_neg (by decide) ?_
          try refine wpAny_bind (wpAny_pure ?_)
          exact rest
    · -- the empty slot
      rw [show t.probe (fun i => (es[i]?.map (·.1)).getD 0) (thash P w k) (stand.getD (t.probeStart (thash P w k))) = some (.empty (way t.mask (thash P w k) K) none) by
        have : way t.mask (thash P w k) K = (nth t.mask (nth t.mask (st0 t (thash P w k)) c) (K - c)).j := by rw [wsh, Nat.add_sub_cancel' hc]
        rw [hst, this]; exact pr]
      dsimp only
      refine wpAny_pure (away fun hm => ?_)
      obtain ⟨p, hp, e⟩ := List.mem_map.mp hm
      obtain ⟨i, il, ei⟩ := List.getElem_of_mem hp
      have hi : L[i]? = some p := by rw [List.getElem?_eq_getElem il, ei]
      obtain ⟨j, hj⟩ := S.way_of hi
      obtain ⟨q, q1, q2⟩ := S.tbl.ahead gap (i := i) (j := j) (by rw [List.getElem?_map, hi, ← e]; rfl) hj
      rw [← q2] at hj
      by_cases c1 : q < c
      · exact seen q i p c1 hj hi e
      · refine none_ (q - c) i (by omega) (by rw [wsh, show c + (q - c) = q by omega]; exact hj) ?_
        show ((es[i]?.map (·.1)).getD 0) = _
        rw [hashAt hi, e]
end
end BS
set_option maxHeartbeats 3200000
namespace BS
open PySem PySem.Spec PyProof.Rows L2
open PySem.W (Frag dataLe AllAlike Sortable EachIs alike alikeAll)
end BS
set_option maxHeartbeats 1000000
namespace DL
open PySem PySem.Spec PyProof.Rows L2 BS
open PySem.W (Frag dataLe AllAlike Sortable EachIs alike alikeAll)
end DL
set_option maxHeartbeats 1000000
namespace DL
open PySem PySem.Spec PyProof.Rows L2
open PySem.W (Frag)
abbrev DSpG := List D → (List D → Prop) → (D → Prop) → Prop
def spDG (K : Frag) (sp : DSpG) : SpG := fun vs H Q E => ∃ (X0 : List Addr) (ds : List D) (R : List D → Prop) (Ex : D → Prop), Ahd K none X0 H 0 vs ds ∧ sp ds R Ex ∧
  (∀ es, R es → ∀ ys H', Aft K none X0 H H' 0 → RlA K (wo H' X0) ys es → Q ys H') ∧ ∀ d, Ex d → ∀ cls dd H', Aft K none X0 H H' 0 → XRl K (wo H' X0) cls dd d → E cls dd H'
structure CalGen (P : Program) (w : World) (K : Frag) (mg : PySem.Str → Option Value) (base : Heap) (k : Nat) (x : PySem.Str) (sp : DSpG) : Prop where
  ex : ∃ f fd ps, GFn P w K mg base k f fd ps (spDG K sp) ∧ mg x = some (.ref f) ∧ PySem.W.keepIn K (.ref f) = true ∧ Binds K fd ps []
section
variable {X : Cx} {k : Nat} {e : Expr} {p pos : Pos}
theorem pe_listS {E : L2.St → XK} {tg : L2.St → TGen} {nm : PySem.Str} (h : ∀ σ, PGen X k e (tg σ) (E σ)) (hx : ∀ σ, PassesAt (L2.CX X.prog X.w) X σ (E σ)) (hns : ∀ σ, NoStop X.K (E σ)) (hr : Room (k + 3) X.A) (hg : Gl X nm) (hmg : X.mg nm = none) (hv : bootBuiltins nm = some (.type "list")) (hnm : nm ≠ "__name__" := by decide) (hdb : (nm == ("__debug__" : PySem.Str)) = false := by decide)
    (he : starEach [e] X.env = (false, eval e X.env) :: starEach [] X.env := by rfl) : PE X (.Call (.Name nm p) [e] [] pos) (fun σ H Q => tListG (tg σ) σ H Q) := by
  constructor
  intro pins s σ H Q I hq
  have once := (h σ).run pins s σ H _ I hq
  refine wpAny_Call_Name_kw (ld_blt I hg hmg hv (PyProof.Rows.callWith_type1 ?_ he rfl) hnm hdb)
  rw [he]
  refine show wpAny _ _ (spliced ((false, eval e X.env) :: backTo pos (starEach [] X.env))) _ _ s from Calls.spliced_cons (thn once ?_)
  rintro u s1 ⟨H1, sc, ex, I1, hex, hG⟩
  have hsz : sc.heap.objs.size ≤ s1.heap.objs.size := by
    obtain ⟨a, g, c, _, g1, g2, _⟩ := hG
    exact Nat.le_trans g1 (Nat.le_of_lt g2)
  refine Calls.spliced_nil (call_list_new hr I1.ok.frames hG ?_ ?_)
  · intro S s' acc c H' ys q0 q1 q2 hl q3 q4 q5 q6 q7 q8
    exact ⟨.ref S, upd H' S (.lst ys), I1.drained (Nat.le_trans hsz q0) hl q1 q2 hex q3 q4 q5 q6 q7, rfl, q8 S q7⟩
  · intro e' s' g hc
    have kin : X.K.In s'.heap := by
      obtain ⟨a, B, H', cls, d, _, fl, _, ub, _⟩ := id hc
      refine I1.ok.mod.kin.keeps fun b o eb => fl.1 b o (ub.keep b o (I1.bs b o eb).1 (I1.bs b o eb).2 fun hm => ?_)
      rcases List.mem_cons.mp (I1.stkSub b hm) with z | z
      · subst z
        exact absurd (Nat.lt_of_lt_of_le (Heap.lt_size eb) (Nat.le_trans I1.ok.bsz I1.ok.above)) (Nat.lt_irrefl _)
      · exact I1.ok.nofr eb z
    refine ⟨notStop_of (hns σ) kin hc, hx σ pins H1 sc e' _ I1 ?_⟩
    obtain ⟨a, B, H', cls, d, z1, fl, z2, ub, z3, z4, z5, z6⟩ := hc
    exact ⟨a, B, H', cls, d, z1, fl, z2, ub, z3, z4, allBare_setGen z5 rfl, z6⟩
end
end DL
set_option maxHeartbeats 1000000
namespace DL
open PySem PySem.Spec PyProof.Rows L2
open PySem.W (Frag)
end DL
set_option maxHeartbeats 1000000
namespace DL
open PySem PySem.Spec PyProof.Rows L2
open PySem.W (Frag)
end DL
set_option maxHeartbeats 1000000
namespace L2
open PySem PySem.Spec PyProof.Rows GenW
section
variable {X : Cx} {st : Stmt} {rest : List Stmt} {pos : Pos}
theorem GS.weak {t t' : TGn} (h : GS X st t) (w : ∀ D ys σ H, t' D ys σ H → t D ys σ H) : GS X st t' := ⟨fun A S ip R n ys s₀ c fs K J gd lv s σ H D g hn k I q => h.run A S ip R n ys s₀ c fs K J gd lv s σ H D g hn k I (w _ _ _ _ q)⟩
theorem GSs.weak {t t' : TGn} (h : GSs X rest t) (w : ∀ D ys σ H, t' D ys σ H → t D ys σ H) : GSs X rest t' := ⟨fun A S ip R n ys s₀ c fs K J gd lv s σ H D g hn k I q => h.run A S ip R n ys s₀ c fs K J gd lv s σ H D g hn k I (w _ _ _ _ q)⟩
def tGIf (c : TT) (t u : TGn) : TGn := fun D ys σ H => c σ H fun b H1 => if b = true then t D ys σ H1 else u D ys σ H1
theorem gs_if {c : Expr} {a b : List Stmt} {tc : TT} {t u : TGn} (hc : PT X c tc) (ha : GSs X a t) (hb : GSs X b u) : GS X (.If c a b pos) (tGIf tc t u) := by
  refine ⟨fun A S ip R n ys s₀ cd fs K J gd lv s σ H D g hn k hI ht => ?_⟩
  rw [exec_If]
  show Seg _ _ _ _ n s₀ cd (.at pos fun _ => ((isTrue c X.env (eval c X.env) >>= fun b' => if b' = true then execs a X.env else execs b X.env) : Sem Flow).wrap K J gd lv) fs s
  refine seg_at ?_
  obtain ⟨acc, cc, r, I⟩ := hI
  refine seg_bind_wrap ?_
  rw [g.over]
  refine wpAny_mono (hc.run _ s σ H _ I ht) (fun v s' hv => ?_) fun x s' hx => k.exc _ s₀ x s' hx
  obtain ⟨H1, I1, q⟩ := hv
  cases v with
  | true => exact ha.run A S ip R n ys s₀ cd fs K J gd lv s' σ H1 D g hn k ⟨acc, cc, r, I1⟩ q
  | false => exact hb.run A S ip R n ys s₀ cd fs K J gd lv s' σ H1 D g hn k ⟨acc, cc, r, I1⟩ q
end
end L2
namespace DL
open PySem PySem.Spec PyProof.Rows L2
open PySem.W (Frag)
structure DGE where
  nx : List D → S → Prop
  bk : List D → S → Prop := fun _ _ => False
  ct : List D → S → Prop := fun _ _ => False
abbrev DGS := DGE → List D → S → Prop
abbrev DGE.at (E : DGE) (es : List D) : DEnds := { nx := E.nx es, rt := fun _ _ => False, bk := E.bk es, ct := E.ct es }
structure FitsG (c : C) (DD : DGE) (D : GEnds) : Prop where
  nx : ∀ s σ H ys es, Rep c s σ H → RlA c.K (c.hid s.X H) ys es → DD.nx es s → D.nx ys σ H
  bk : ∀ s σ H ys es, Rep c s σ H → RlA c.K (c.hid s.X H) ys es → DD.bk es s → D.bk ys σ H
  ct : ∀ s σ H ys es, Rep c s σ H → RlA c.K (c.hid s.X H) ys es → DD.ct es s → D.ct ys σ H
def LGn (c : C) (t : DGS) : TGn := fun D ys σ H => ∃ s es DD, Rep c s σ H ∧ RlA c.K (c.hid s.X H) ys es ∧ t DD es s ∧ FitsG c DD D
abbrev dgPl (t : DS) : DGS := fun DD es s => t (DD.at es) s
abbrev dgNext : DGS := fun DD es s => DD.nx es s
abbrev dgSeq (t u : DGS) : DGS := fun DD es s => t { DD with nx := u DD } es s
abbrev dgYield (t : DE) : DGS := fun DD es s => es.length < lim ∧ t s fun d k => DD.nx (es ++ [d]) (s.at k)
abbrev dgIf (tt : DT) (t u : DGS) : DGS := fun DD es s => tt s fun b k => if b = true then t DD es (s.at k) else u DD es (s.at k)
abbrev dgWhile (tt : DT) (tb : DGS) : DGS := fun DD es s => ∃ Inv : Nat → List D → S → Prop, (∃ m, Inv m es s) ∧ ∀ m es' s', Inv m es' s' → tt s' fun b k =>
  if b = true then tb { nx := fun es2 s2 => ∃ m', m' < m ∧ Inv m' es2 s2, ct := fun es2 s2 => ∃ m', m' < m ∧ Inv m' es2 s2, bk := DD.nx } es' (s'.at k) else DD.nx es' (s'.at k)
section
variable {X : Cx} {c : C} {pos : Pos}
theorem gd_plain {st : Stmt} {t : DS} (h : PS X st (LS c t)) : GS X st (LGn c (dgPl t)) :=
  (gs_ps h).weak fun D ys σ H ⟨s, es, DD, rp, er, q, f⟩ => ⟨s, DD.at es, rp, q, ⟨fun s' σ' H' r a q => f.nx s' σ' H' ys es r (er.mono a) q, fun s' σ' H' r a q => f.bk s' σ' H' ys es r (er.mono a) q, fun s' σ' H' r a q => f.ct s' σ' H' ys es r (er.mono a) q, fun _ _ _ _ _ _ z => z.elim⟩⟩
theorem gd_nil : GSs X [] (LGn c dgNext) := gss_nil.weak fun D ys σ H ⟨s, es, DD, rp, er, q, f⟩ => f.nx s σ H ys es rp er q
theorem gd_cons {st : Stmt} {r : List Stmt} {t u : DGS} (h1 : GS X st (LGn c t)) (h2 : GSs X r (LGn c u)) : GSs X (st :: r) (LGn c (dgSeq t u)) :=
  (gss_cons h1 h2).weak fun D ys σ H ⟨s, es, DD, rp, er, q, f⟩ => ⟨s, es, { DD with nx := u DD }, rp, er, q, ⟨fun s' σ' H' ys' es' r' e' q' => ⟨s', es', DD, r', e', q', f⟩, f.bk, f.ct⟩⟩
theorem gd_one {st : Stmt} {t : DGS} (h1 : GS X st (LGn c t)) : GSs X [st] (LGn c t) :=
  (gd_cons h1 gd_nil).weak fun D ys σ H ⟨s, es, DD, rp, er, q, f⟩ => ⟨s, es, DD, rp, er, q, f⟩
theorem gd_yield {e : Expr} {yp : Pos} {t : DE} (he : PE X e (LE c t)) (hco : X.env.scope.isCoroutine = false := by rfl) (hi : interactive X.env = false := by rfl) : GS X (.Expr (.Yield (some e) yp) pos) (LGn c (dgYield t)) :=
  (gs_yield he hco hi).weak fun D ys σ H ⟨s, es, DD, rp, er, ⟨hl, q⟩, f⟩ => ⟨by rw [er.len]; exact lim_lt (Nat.le_of_lt hl), s, _, rp, q, fun d k h v H1 r1 a1 e1 => f.nx _ σ H1 _ _ r1 ((er.mono a1.sub).app (.cons e1 .nil)) h⟩
theorem gd_if {t : Expr} {a b : List Stmt} {tt : DT} {ta tb : DGS} (ht : PT X t (LT c tt)) (ha : GSs X a (LGn c ta)) (hb : GSs X b (LGn c tb)) : GS X (.If t a b pos) (LGn c (dgIf tt ta tb)) :=
  (gs_if ht ha hb).weak fun D ys σ H ⟨s, es, DD, rp, er, q, f⟩ => ⟨s, _, rp, q, fun x k h H1 r1 a1 => by
    cases x with
    | true => exact ⟨s.at k, es, DD, r1, er.mono a1.sub, h, f⟩
    | false => exact ⟨s.at k, es, DD, r1, er.mono a1.sub, h, f⟩⟩
theorem gd_while {t : Expr} {body : List Stmt} {tt : DT} {tb : DGS} (hp : PassesOwn (model X.prog X.w) X.A X.env X.xe) (ht : PT X t (LT c tt)) (hb : GSs X body (LGn c tb)) : GS X (.While t body [] pos) (LGn c (dgWhile tt tb)) :=
  (gs_while hp ht hb).weak fun D ys σ H ⟨s, es, DD, rp, er, ⟨IV, ⟨m0, i0⟩, turn⟩, f⟩ => by
    refine ⟨fun m ys' σ' H' => ∃ s' es', IV m es' s' ∧ Rep c s' σ' H' ∧ RlA c.K (c.hid s'.X H') ys' es', ⟨m0, s, es, i0, rp, er⟩, ?_⟩
    rintro m ys' σ' H' ⟨s', es', hI, rp', er'⟩
    refine ⟨s', _, rp', turn m es' s' hI, fun b k h H1 r1 a1 => ?_⟩
    have er1 := er'.mono a1.sub
    cases b with
    | true =>
      refine iteT ⟨fun ys2 σ2 H2 => ∃ m', m' < m ∧ ∃ s2 es2, IV m' es2 s2 ∧ Rep c s2 σ2 H2 ∧ RlA c.K (c.hid s2.X H2) ys2 es2, fun ys2 σ2 H2 h => h, s'.at k, es', _, r1, er1, h, ?_⟩
      exact ⟨fun s4 σ4 H4 ys4 es4 r4 e4 ⟨m', hm, h4⟩ => ⟨m', hm, s4, es4, h4, r4, e4⟩, fun s4 σ4 H4 ys4 es4 r4 e4 h4 => f.nx s4 σ4 H4 ys4 es4 r4 e4 h4, fun s4 σ4 H4 ys4 es4 r4 e4 ⟨m', hm, h4⟩ => ⟨m', hm, s4, es4, h4, r4, e4⟩⟩
    | false => exact iteF (f.nx (s'.at k) σ' H1 ys' es' r1 er1 h)
theorem RlA.snoc {K : Frag} {A : Hp} {vs : List V} {ds : List D} {d : D} (h : RlA K A vs (ds ++ [d])) : ∃ v, vs[vs.length - 1]? = some v ∧ Rl K A v d ∧ RlA K A vs.dropLast ds := by
  have hl : vs.length = ds.length + 1 := by rw [h.len, List.length_append, List.length_singleton]
  obtain ⟨v, h1, h2⟩ := h.getD (i := ds.length) (d := d) (by simp)
  refine ⟨v, by rw [hl]; exact h1, h2, ?_⟩
  have q := h.take ds.length
  rw [List.take_left] at q
  rw [List.dropLast_eq_take, hl]
  exact q
abbrev dPop (i : Nat) (g : DG) : DS := fun DD s => ∃ p ds d, s.sl[i]? = some (.own p (ds ++ [d])) ∧ g d (s.put i (.own p ds)) DD.nx
theorem psd_popA (i : Nat) {x : PySem.Str} {pn apos cpos : Pos} {tg : Expr} {g : DG} {ts : List Nat} (hg : PG X tg (LG c ts g)) (hN : X.N[i]? = some x := by rfl) (hv : Vis X.env.scope x := by first | exact Or.inl rfl | exact Or.inr (Or.inl rfl) | exact Or.inr (Or.inr rfl)) (hd : (x == ("__debug__" : PySem.Str)) = false := by decide) (hcd : (x == ("__classdict__" : PySem.Str)) = false := by decide)
    (hbase : attributeBase (Expr.Name x pn) "pop" X.env (eval (Expr.Name x pn) X.env) = eval (Expr.Name x pn) X.env := by rfl) (hline : (apos.endLine == cpos.line) = true := by rfl)
    (hs : swapsWithSole [tg] (.Call (.Attribute (.Name x pn) "pop" apos) [] [] cpos) pos.line X.env = pure false := by rfl) (hw : swappedStores [tg] (.Call (.Attribute (.Name x pn) "pop" apos) [] [] cpos) X.env = pure none := by rfl)
    (h1 : (assignEach [tg] X.env).map (·.2) = [assign tg X.env] := by rfl) : PS X (.Assign [tg] (.Call (.Attribute (.Name x pn) "pop" apos) [] [] cpos) pos) (LS c (dPop i g)) :=
  (ps_asg (pe_bm0 PySem.F.plainAttrs_list PySem.F.slot_list_pop PySem.F.type_list_pop mt_pop (pe_var hN hv hd hcd) hbase hline) hg hs hw h1).weak fun D σ H ⟨s, DD, rp, ⟨p, ds, d, h, q⟩, f⟩ => by
    obtain ⟨e1, h1, h2, h3, vs, h4, h5⟩ := rp.slot i _ h
    obtain ⟨v, hv, e2, e3⟩ := h5.snoc
    refine ⟨_, e1, .inl ⟨rfl, _, SqL.of h4⟩, p, vs, v, rfl, rfl, h4, hv, ?_⟩
    have m := Rep.mut rp h e3
    exact ⟨s.put i (.own p ds), _, d, m.1, e2.mono m.2, q, fun s2 q2 σ2 H2 r2 a2 x2 _ _ => f.nx s2 σ2 H2 r2 (m.2.trans (x2 ▸ a2.sub)) q2⟩
end
section
variable {P : Program} {w : World} {K : Frag} {mg : PySem.Str → Option Value} {base : Heap}
theorem okDGb {x qual : PySem.Str} {st : Stmt} {f : Addr} {fd : FuncData} {N ps : List PySem.Str} {k : Nat} {sp : DSpG} (F : Fun K x qual st f fd) (Sc : GScope N ps (defScope st)) (ow : List Nat)
    (len : ∀ ds R E, sp ds R E → ds.length = ps.length)
    (body : ∃ t : EX → DGS, (∀ (cdv : Value) (A : Around) (outer : List Env) (s : Shared) (H : Hp) (E : XK) (pn : List (Addr × Obj)) (X0 : List Addr) (Ex : EX), Room k (A.deeper (envOfC qual (defScope st) s.heap.objs.size f cdv)) →
        Takes (gcxOf P w K mg base N qual (defScope st) f cdv A outer s H E pn) (WL ⟨K, none, X0, H, ow⟩ Ex) →
        GSs (gcxOf P w K mg base N qual (defScope st) f cdv A outer s H E pn) (defBody st) (LGn ⟨K, none, X0, H, ow⟩ (t Ex))) ∧
      ∀ X ds R E, sp ds R E → t (fun d _ => E d) { nx := fun es _ => R es } [] ⟨X, init false N.length ds, 0⟩) :
    GFn P w K mg base (k + 1) f fd ps (spDG K sp) := by
  obtain ⟨t, hbd, hr⟩ := body
  have lens : ∀ vs H Q E, spDG K sp vs H Q E → vs.length = ps.length := fun vs H Q E ⟨X0, ds, R, Ex, a, h2, _⟩ => by
    rw [a.args.len]
    exact len ds R Ex h2
  obtain ⟨oc, od, kV, doc, pm, an, cdv, ct, osl, rfl, lk, hcd⟩ := F.ex
  refine gfn_of lk hcd Sc lens fun A outer s H vs Q E pn room h => ?_
  have hl := lens _ _ _ _ h
  obtain ⟨X0, ds, R, Ex, a, h2, h3, h4⟩ := h
  have hpl : ps.length ≤ N.length := by have := congrArg List.length Sc.pre; rw [List.length_take] at this; omega
  have aft : ∀ {H' k}, Fin ⟨K, none, X0, H, ow⟩ H' k → Aft K none X0 H H' 0 := fun fi => ⟨fi.sub, fun b hb => fi.old b hb (a.xm b hb) (a.xs b hb), trivial, fi.tb⟩
  have hgs := hbd cdv A outer s H E pn X0 (fun d _ => Ex d) room (takes_gcx.imp fun cls dd σ H' ⟨s', d, rp, e, q⟩ => h4 d q cls dd H' (aft rp.fin) (e.mono rp.sub0))
  refine ⟨_, hgs, ⟨X0, init false N.length ds, 0⟩, [], { nx := fun es _ => R es }, init_rep (c := ⟨K, none, X0, H, ow⟩) rfl ⟨rfl, rfl⟩ a (by omega), .nil, hr X0 ds R Ex h2, ?_⟩
  exact ⟨fun s' σ' H' ys es r' e' q => h3 es q ys H' (aft r'.fin) (e'.mono r'.sub0), fun _ _ _ _ _ _ _ z => z.elim, fun _ _ _ _ _ _ _ z => z.elim⟩
end
end DL
set_option maxHeartbeats 1000000
namespace L2
open PySem PySem.Spec PyProof.Rows GenW
end L2
namespace DL
open PySem PySem.Spec PyProof.Rows L2
open PySem.W (Frag)
abbrev dListG0 (sp : DSpG) (t : DA) : DE := fun s Q => t s fun ds k => sp ds (fun es => Q (.lst es) k) (fun _ => False)
section
variable {X : Cx} {c : C} {k j : Nat} {x m : PySem.Str} {sp : DSp} {spg : DSpG} {p pos pf pos' apos : Pos} {Cl : Addr} {kws : List Keyword} {ks : List PySem.Str}
theorem passF : ∀ σ, PassesAt (L2.CX X.prog X.w) X σ (fun _ _ _ => False) := fun σ pins H s e s' I h => by
  obtain ⟨_, _, _, _, _, _, _, _, _, _, _, _, z⟩ := (show L2.CX X.prog X.w X.stack H s (fun _ _ _ => False) e s' from h)
  exact z.elim
theorem pd_listG0 (hK : c.K = X.K) (F : CalGen X.prog X.w X.K X.mg X.base k x spg) (hr : Room j X.A) (hk : k + 3 ≤ j) {e : Expr} {es : List Expr} {t : DA} (ha : PA X (e :: es) (LA c t)) (hmg : X.mg "list" = none) (hg : Gl X x := by rfl) (hgl : Gl X "list" := by rfl) (hdb : (x == ("__debug__" : PySem.Str)) = false := by decide)
    (he : starEach (e :: es) X.env = (false, eval e X.env) :: starEach es X.env := by rfl) (hpl : (backTo pos' (starEach es X.env)).any (·.1) = false := by rfl)
    (he2 : starEach [.Call (.Name x p) (e :: es) [] pos'] X.env = (false, eval (.Call (.Name x p) (e :: es) [] pos') X.env) :: starEach [] X.env := by rfl) :
    PE X (.Call (.Name "list" pf) [.Call (.Name x p) (e :: es) [] pos'] [] pos) (LE c (dListG0 spg t)) := by
  obtain ⟨f, fd, ps, G, hm, kp, b⟩ := F.ex
  refine (pe_listS (E := fun _ _ _ _ => False) (fun σ => pgen_call G (hr.mono (by omega)) hg hm kp b .nil ha hdb he hpl) passF (fun σ cls d H h => h.elim) (hr.mono hk) hgl hmg (by rfl) (he := he2)).weak fun σ H Q ⟨s, R, rp, q, fn⟩ => ⟨s, _, rp, q, fun ds k1 h1 vs H1 r1 a1 e1 => ?_⟩
  refine ⟨Ml c.M ++ s.X, ds, _, _, by rw [List.append_nil]; exact ⟨fun a _ => by simp [Ml], r1.allHid, trivial, hK ▸ e1, r1.allTb⟩, h1, fun es hR ys H' af er => ?_, fun d z => z.elim⟩
  have z := Rep.after (s := s.at k1) r1 ⟨af.sub, af.old, af.m, af.tb⟩
  exact fun q hq => Wi.lst (c := c) (s := s.at k1) (σ := σ) (R := fun d => d = .lst es) (fun d hd v H2 r' a' e' => by subst hd; exact fn _ k1 (hR) v H2 r' ((a1.trans z.2).trans a') e') z.1 rfl (hK ▸ er) q hq
end
end DL
set_option maxHeartbeats 1000000
namespace DL
open PySem L2
open PySem.W (Frag)
theorem Yl.rt {c : C} {s0 : S} {Hs : Hp} {K : Frag} {a : Addr} {vs : List V} {ds : List D} (hK : c.K = K) (h : SqT c.K (c.hid s0.X Hs) a vs) (r : RlA c.K (c.hid s0.X Hs) vs ds) : Yl c s0 Hs (RT.ItvT K a vs.length) ds.reverse := fun i s σ H rp ad => by
  subst hK
  have h1 : SqT c.K H a vs := (ad.trans (wo_sub _ _)).st h
  have r1 := r.mono ad
  refine ⟨fun hl => by show vs.length ≤ i; rw [r.len, ← List.length_reverse]; exact hl, fun d hd => ?_⟩
  have hi : i < ds.length := by
    obtain ⟨z, _⟩ := List.getElem?_eq_some_iff.mp hd
    rw [List.length_reverse] at z
    exact z
  rw [List.getElem?_reverse hi] at hd
  obtain ⟨v, hv, hr⟩ := r1.getD hd
  rw [← r.len] at hv
  refine ⟨⟨by rw [r.len]; exact hi, vs, v, h1, hv⟩, fun x H' ⟨e1, e2⟩ => ?_⟩
  subst e1
  have e3 := e2 vs h1
  rw [hv] at e3
  cases e3
  exact ⟨rp, AdvE.refl, hr⟩
abbrev iRvT (t : DE) : DI := fun s Q => t s fun d k => ∃ ds, d = .tup ds ∧ Q ds.reverse k
section
variable {X : Cx} {c : C} {tg : Expr}
theorem pid_rvT (hK : c.K = X.K) {l : Expr} {t : DE} {p pos : Pos} (hm : X.mg "reversed" = none) (h : PE X l (LE c t)) (hg : Gl X "reversed" := by rfl) (hs : starEach [l] X.env = (false, eval l X.env) :: starEach [] X.env := by rfl) : PI X tg (.Call (.Name "reversed" p) [l] [] pos) (LI c (iRvT t)) :=
  PI.weak (RT.pi_revA hg hm h hs) fun σ H R ⟨s, Z, rp, q, f⟩ => ⟨s, _, rp, q, fun d k ⟨ds, hd, hz⟩ v H1 r1 a1 e1 => by
    subst hd
    obtain ⟨a, vs, rfl, h1, r⟩ := e1.tupE
    exact ⟨a, vs, rfl, .inr ⟨hK ▸ (wo_sub _ _).st h1, f ds.reverse k hz _ H1 r1 a1 (Yl.rt hK h1 r)⟩⟩⟩
abbrev dTruN (i : Nat) : DT := fun s Q => ∃ ds, s.seq i = some ds ∧ Q (!ds.isEmpty) s.k
theorem pt_truN (hK : c.K = X.K) (i : Nat) {x : PySem.Str} {pn : Pos} (hN : X.N[i]? = some x := by rfl) (hv : Vis X.env.scope x := by first | exact Or.inl rfl | exact Or.inr (Or.inl rfl) | exact Or.inr (Or.inr rfl)) (hd : (x == ("__debug__" : PySem.Str)) = false := by decide) (hcd : (x == ("__classdict__" : PySem.Str)) = false := by decide)
    (he : ∀ whole, isTrue (Expr.Name x pn) X.env whole = (do let v ← whole; standAt (Expr.Name x pn).pos; holding [v] (truthy v)) := by intro _; rfl) : PT X (.Name x pn) (LT c (dTruN i)) :=
  (pt_truth (pe_var hN hv hd hcd) he).weak fun σ H Q ⟨s, R, rp, ⟨ds, h1, h2⟩, f⟩ => by
    obtain ⟨a, vs, e, h, r⟩ := rp.seq h1
    refine ⟨_, e, !ds.isEmpty, ?_, f _ _ h2 H rp AdvE.refl⟩
    rcases h with h | h
    · exact .inl ⟨vs, hK ▸ h, by rw [isEmpty_rl r]⟩
    · exact .inr (.inl ⟨vs, hK ▸ h, by rw [isEmpty_rl r]⟩)
end
end DL
set_option maxHeartbeats 1000000
namespace DL
open PySem L2
open PySem.W (Frag)
def DbE (p : Addr) (L : List (Addr × List Int)) (h : Heap) : Prop := ∃ o es ep, h.get? p = some o ∧ o.ExactDict ∧ o.data = .dict es ep ∧ (p == sysModules) = false ∧ es.toList = L.map (fun y => (⟨hashT y.2, .ref y.1, .bool true⟩ : DictEntry)) ∧ (L.map (·.2)).Nodup
def xsB (L : List (Addr × List Int)) : List (List Int × Addr × Value) := L.map fun y => (y.2, y.1, .bool true)
abbrev KsB (K : Frag) (H : Hp) (L : List (Addr × List Int)) : Prop := ∀ x ∈ L, SqT K H x.1 (x.2.map V.int)
theorem xsB_keys (L : List (Addr × List Int)) : (xsB L).map (·.1) = L.map (·.2) := by
  unfold xsB
  rw [List.map_map]; rfl
section
variable {X : Cx} {pins : List (Addr × Obj)} {σ : St} {H : Hp} {s : Shared} {p q : Addr} {L : List (Addr × List Int)} {r : List Int}
theorem dib_of (I : Inv X pins σ H s) (e : H p = some (.ext (DbE p L))) (hk : KsB X.K H L) : s.heap.DictOfH (tupleKind (intKind X.prog X.w)) p (xsB L) ∧ (p == sysModules) = false ∧ (L.map (·.2)).Nodup := by
  obtain ⟨⟨o, es, ep, h1, h2, h3, h4, h7, h8⟩, _, _⟩ := (show ObjOk X.prog X.w H s.heap p (.ext (DbE p L)) from I.hok p _ e)
  refine ⟨⟨o, es, ep, h1, h2, h3, ?_, fun x hx => ?_, ?_⟩, h4, h8⟩
  · rw [h7]
    unfold xsB
    rw [List.map_map]
    rfl
  · obtain ⟨y, hy, rfl⟩ := List.mem_map.mp hx
    exact Inv.isT I (hk y hy)
  · rw [xsB_keys]
    exact h8
theorem dbe_new {P : Program} {w : World} {h' : Heap} {L : List (Addr × List Int)} (hd : (p == sysModules) = false) (dd : h'.DictOfH (tupleKind (intKind P w)) p (xsB L)) (H' : Hp) : ObjOk P w H' h' p (.ext (DbE p L)) := by
  obtain ⟨o, es, ep, h1, h2, h3, h4, h5, h6⟩ := dd
  rw [xsB_keys] at h6
  refine ⟨⟨o, es, ep, h1, h2, h3, hd, ?_, h6⟩, ⟨o, h1⟩, fun g1 g2 ⟨o, es, ep, k1, k2, k3, k4, k5⟩ st => ⟨o, es, ep, st o k1, k2, k3, k4, k5⟩⟩
  rw [h4]
  unfold xsB
  rw [List.map_map]
  rfl
def addB (L : List (Addr × List Int)) (q : Addr) (r : List Int) : List (Addr × List Int) := if r ∈ L.map (·.2) then L else L ++ [(q, r)]
theorem storedB (nd : (L.map (·.2)).Nodup) : storedH (xsB L) r q (.bool true) = xsB (addB L q r) := by
  unfold addB
  by_cases z : r ∈ L.map (·.2)
  · rw [if_pos z]
    obtain ⟨i, hi⟩ := List.getElem?_of_mem z
    rw [List.getElem?_map] at hi
    obtain ⟨x, hx, rfl⟩ := Option.map_eq_some_iff.mp hi
    have e : atKey (xsB L) x.2 = some (x.1, .bool true) := atKey_of_get (i := i) (by rw [xsB_keys]; exact nd) (by unfold xsB; rw [List.getElem?_map, hx]; rfl)
    rw [storedH_old e]
    unfold xsB
    rw [List.map_map]
    refine List.map_congr_left fun y _ => ?_
    show putAt x.2 (.bool true) (y.2, y.1, .bool true) = (y.2, y.1, .bool true)
    unfold putAt
    split <;> rfl
  · rw [if_neg z, storedH_new]
    · unfold xsB
      rw [List.map_append]; rfl
    · refine atKey_none_of_get fun j y e => z ?_
      obtain ⟨w, hw, e2⟩ := List.mem_map.mp (List.mem_of_getElem? e)
      have : w.2 = r := congrArg Prod.fst e2
      rw [← this]
      exact List.mem_map.mpr ⟨w, hw, rfl⟩
def rSetB (K : Frag) : V → V → V → Hp → (Hp → Prop) → Prop := fun o i v H Q => ∃ p q L r, o = .ref p ∧ i = .ref q ∧ v = .bl true ∧ H p = some (.ext (DbE p L)) ∧ KsB K H L ∧ SqT K H q (r.map V.int) ∧ L.length ≤ 1000000 ∧ Q (upd H p (.ext (DbE p (addB L q r))))
theorem set_B (hu : X.A.units + 1 < cLine) : PSet X (rSetB X.K) := by
  intro pins s σ H o i v ov iv u Q I ro ri rv h
  obtain ⟨p, q, L, r, rfl, rfl, rfl, e, hk, hq, hz, h⟩ := h
  cases (show ov = Value.ref p from ro)
  cases (show iv = Value.ref q from ri)
  cases (show u = Value.bool true from rv)
  obtain ⟨dd, hd, nd⟩ := dib_of I e hk
  have lx : (xsB L).length = L.length := by unfold xsB; rw [List.length_map]
  refine wpAny_setItem_heap (tupleKind_room_in1 hu) (Inv.isT I hq) dd (fun h' dd' sb => ?_) (by rw [lx]; exact Nat.le_trans hz (by decide))
  rw [storedB nd] at dd'
  have he : ∃ ob, h'.get? p = some ob := let ⟨ob, _, _, ho, _⟩ := dd'; ⟨ob, ho⟩
  exact ⟨_, d_write I (by rw [e]; exact True.intro) sb he (dbe_new hd dd' _), h⟩
end
section
variable {X : Cx}
theorem cr_listB (hc : X.calm = true) : CallR X (.type "list") (fun vs H Q => ∃ (a : Addr) (L : List (Addr × List Int)), vs = [V.ref a] ∧ H a = some (.ext (DbE a L)) ∧ L.length ≤ 1000000 ∧ ∀ p, H p = none → Q (.ref p) (upd H p (.lst (L.map fun q => V.ref q.1)))) := by
  intro pins s σ H vs us Q I r h
  obtain ⟨a, L, rfl, ha, hz, q⟩ := h
  rw [Vals.ref1 r]
  obtain ⟨⟨o, es, ep, h1, h2, h3, h4, h7, h8⟩, _, _⟩ := (show ObjOk X.prog X.w H s.heap a (.ext (DbE a L)) from I.hok a _ ha)
  have hn : es.size = L.length := by rw [← Array.length_toList, h7, List.length_map]
  refine PySem.W.kdl_call (kdl_raw h4 h2 h3) (I.ok.hd hc) h1 (by rw [hn, sizeLine_eq]; omega) fun h' tk acc c kp hl it => ?_
  have ea : acc.toList = L.map fun q => Value.ref q.1 := by
    refine List.ext_getElem? fun j => ?_
    by_cases hj : j < es.size
    · have hja : j < acc.toList.length := by rw [Array.length_toList, it.1]; exact hj
      obtain ⟨en, e1, e2⟩ := it.2 j acc.toList[j] (by rw [← Array.getElem?_toList]; exact List.getElem?_eq_getElem hja)
      rw [List.getElem?_eq_getElem hja, e2]
      rw [← Array.getElem?_toList, h7, List.getElem?_map] at e1
      obtain ⟨y, hy, rfl⟩ := Option.map_eq_some_iff.mp e1
      rw [List.getElem?_map, hy]; rfl
    · rw [List.getElem?_eq_none (by rw [Array.length_toList, it.1]; omega), List.getElem?_eq_none (by rw [List.length_map]; omega)]
  have free := I.hok.fresh (Nat.le_refl s.heap.objs.size)
  refine ⟨.ref s.heap.objs.size, upd H s.heap.objs.size (.lst (L.map fun q => V.ref q.1)), I.laid (t' := tk) kp (Nat.le_refl _) (show ObjOk X.prog X.w _ _ _ (.lst _) from ⟨by rw [List.length_map, sizeLine_eq]; omega, acc.toList, c, by rw [ea]; exact vals_of_refs _, by rw [Array.toArray_toList]; exact hl⟩), rfl, q _ free⟩
end
end DL
set_option maxHeartbeats 1000000
namespace DL
open PySem L2
open PySem.W (KdlSrc)
end DL
set_option maxHeartbeats 1000000
namespace DL
open PySem PySem.Spec PyProof.Rows L2
open PySem.W (Frag dataLe AllAlike Sortable EachIs alike alikeAll KdlSrc)
end DL
set_option maxHeartbeats 1000000
namespace DL
open PySem PySem.Spec PyProof.Rows L2
open PySem.W (Frag)
def tDisR (K : Frag) (tk : TE) : TE := fun σ H Q => ∀ p, H p = none → tk σ (upd H p (.ext (DbE p []))) fun x H2 => ∃ q r, x = .ref q ∧ H2 p = some (.ext (DbE p [])) ∧ SqT K H2 q (r.map V.int) ∧ Q (.ref p) (upd H2 p (.ext (DbE p [(q, r)])))
section
variable {X : Cx} {pos p1 : Pos} {j : Nat}
theorem dbe_empty (h : Heap) (hb : sysModules < h.objs.size) (P : Program) (w : World) (H : Hp) : ObjOk P w H (h.push { cls := .type "dict", data := .dict #[] }) h.objs.size (.ext (DbE h.objs.size [])) :=
  dbe_new (L := []) (beq_eq_false_iff_ne.mpr (Ne.symm (Nat.ne_of_lt hb))) ⟨_, #[], 0, Heap.get?_push_size _ rfl, ⟨rfl, rfl, rfl⟩, rfl, rfl, fun x hx => (nomatch hx), List.nodup_nil⟩ _
theorem vv1 {x y : V} {ws : List (Value × Value)} (h : VV [(x, y)] ws) : ∃ u1 u2, ws = [(u1, u2)] ∧ RelV x u1 ∧ RelV y u2 := by
  cases h with
  | cons a b =>
    cases b
    exact ⟨_, _, rfl, a.1, a.2⟩
theorem pe_disR (hu : X.A.units + 1 < cLine) {k : Expr} {tk : TE} (hk : PE X k tk) : PE X (.Dict [some k] [.Constant (.bool true) j p1] pos) (tDisR X.K tk) := by
  refine ⟨fun pins s σ H Q I q => ?_⟩
  have hn := I.hok.fresh (Nat.le_refl s.heap.objs.size)
  have I1 := I.laid (a := s.heap.objs.size) (o := .ext (DbE s.heap.objs.size [])) (h' := s.heap.push { cls := .type "dict", data := .dict #[] }) (t' := s.toks) (fun _ _ q => Heap.get?_push_of_some _ q) (Nat.le_refl _) (dbe_empty s.heap I.big X.prog X.w _)
  have hp : PPs X pos [some k] [.Constant (.bool true) j p1] [(tk, tC (.bl true))] := pps_cons hk pe_bl pps_nil
  rw [arm_eval_Dict, zip_pairTrees [some k] [.Constant (.bool true) j p1] X.env pos rfl rfl, dictDisplay_pairs _ (fun z => by have := congrArg List.length z; rw [pairTrees_length _ _ _ _ rfl rfl] at this; cases this) (by rw [pairTrees_length _ _ _ _ rfl rfl]; show 1 < 17; decide)]
  refine wpAny_bind (wpAny_standAt (wpAny_bind (wpAny_subDictH (knd := tupleKind (intKind X.prog X.w)) (Q := fun d s' => wpAny (model X.prog X.w) X.A (pure (Value.ref d)) (EP X pins σ Q) X.xe s') (Nat.lt_of_succ_lt hu) (by rw [pairTrees_length _ _ _ _ rfl rfl]; show 1 ≤ 15; decide) ?_)))
  refine thn (hp.run pins _ σ _ (fun ps H2 => match ps with
    | [(x, .bl true)] => ∃ qa r, x = .ref qa ∧ H2 s.heap.objs.size = some (.ext (DbE s.heap.objs.size [])) ∧ SqT X.K H2 qa (r.map V.int) ∧ Q (.ref s.heap.objs.size) (upd H2 s.heap.objs.size (.ext (DbE s.heap.objs.size [(qa, r)])))
    | _ => False) I1 (q _ hn)) fun ws s2 ⟨ps, H2, I2, rel, q2⟩ => ?_
  match ps, rel, q2 with
  | [(x, .bl true)], rel, q2 =>
    obtain ⟨qa, r, rfl, e, hq, q3⟩ := q2
    obtain ⟨dd, hd, nd⟩ := dib_of I2 e (fun x hx => nomatch hx)
    obtain ⟨u1, u2, rfl, k1, k2⟩ := vv1 rel
    cases (show u1 = Value.ref qa from k1)
    cases (show u2 = Value.bool true from k2)
    refine ⟨[(r, qa, .bool true)], ⟨rfl, rfl, Inv.isT I2 hq, trivial⟩, dd, fun h' tk dd' sb => wpAny_pure ?_⟩
    have he : ∃ ob, h'.get? s.heap.objs.size = some ob := let ⟨ob, _, _, ho, _⟩ := dd'; ⟨ob, ho⟩
    exact ⟨.ref s.heap.objs.size, _, d_write I2 (by rw [e]; exact True.intro) sb he (dbe_new (L := [(qa, r)]) hd dd' _), rfl, q3⟩
end
end DL
set_option maxHeartbeats 1000000
namespace DL
open PySem L2
open PySem.W (Frag)
structure DcAt (c : C) (i : Nat) (p : Addr) (L : List (Addr × List Int)) (s : S) (σ : L2.St) (H : Hp) : Prop where
  slot : s.sl[i]? = some .no
  at_ : σ[i]? = some (some (.ref p))
  mem : p ∈ s.X
  out : p ∉ c.X0
  obj : H p = some (.ext (DbE p L))
  keys : ∀ x ∈ L, SqT c.K (c.hid s.X H) x.1 (x.2.map V.int)
theorem DcAt.noown {c : C} {i : Nat} {p : Addr} {L : List (Addr × List Int)} {s : S} {σ : L2.St} {H : Hp} (a : DcAt c i p L s σ H) (rp : Rep c s σ H) (j : Nat) (ds : List D) : s.sl[j]? ≠ some (.own p ds) := fun e => by
  obtain ⟨_, _, _, _, vs, h, _⟩ := rp.slot j _ e
  rw [a.obj] at h
  cases h
structure DdE where
  nx : S → List (List Int) → Prop
  rt : D → Nat → Prop
  bk : S → List (List Int) → Prop := fun _ _ => False
  ct : S → List (List Int) → Prop := fun _ _ => False
abbrev DdS := DdE → S → List (List Int) → Prop
structure FitsD (c : C) (i : Nat) (p : Addr) (X : List Addr) (H : Hp) (DD : DdE) (D : Ends) : Prop where
  nx : ∀ s' σ' H' L', Rep c s' σ' H' → Adv' c X H s'.X H' → DcAt c i p L' s' σ' H' → DD.nx s' (L'.map (·.2)) → D.nx σ' H'
  bk : ∀ s' σ' H' L', Rep c s' σ' H' → Adv' c X H s'.X H' → DcAt c i p L' s' σ' H' → DD.bk s' (L'.map (·.2)) → D.bk σ' H'
  ct : ∀ s' σ' H' L', Rep c s' σ' H' → Adv' c X H s'.X H' → DcAt c i p L' s' σ' H' → DD.ct s' (L'.map (·.2)) → D.ct σ' H'
  rt : ∀ d k v H', Fin c H' k → Rl c.K (c.hid c.X0 H') v d → DD.rt d k → D.rt v H'
def LDd (c : C) (i : Nat) (t : DdS) : TS := fun D σ H => ∃ p L s DD, Rep c s σ H ∧ DcAt c i p L s σ H ∧ t DD s (L.map (·.2)) ∧ FitsD c i p s.X H DD D
theorem DcAt.on {c : C} {i : Nat} {p : Addr} {L : List (Addr × List Int)} {s : S} {σ : L2.St} {H H1 : Hp} {k : Nat} (a : DcAt c i p L s σ H) (e : AdvE c s.X H H1) : DcAt c i p L (s.at k) σ H1 :=
  ⟨a.slot, a.at_, a.mem, a.out, by rw [e.own p a.mem]; exact a.obj, fun x hx => e.sub.st (a.keys x hx)⟩
theorem FitsD.on {c : C} {i : Nat} {p : Addr} {X X1 : List Addr} {H H1 : Hp} {DD : DdE} {D : Ends} (f : FitsD c i p X H DD D) (a : Adv' c X H X1 H1) : FitsD c i p X1 H1 DD D :=
  ⟨fun s σ H' L' r b z q => f.nx s σ H' L' r (a.trans b) z q, fun s σ H' L' r b z q => f.bk s σ H' L' r (a.trans b) z q, fun s σ H' L' r b z q => f.ct s σ H' L' r (a.trans b) z q, f.rt⟩
abbrev dcS (i : Nat) (s : S) : Prop := s.sl[i]? = some .no
abbrev ddNext : DdS := fun DD s ks => DD.nx s ks
abbrev ddSeq (t u : DdS) : DdS := fun DD s ks => t { DD with nx := u DD } s ks
abbrev ddFor (i : Nat) (it : DI) (g : DG) (body : DdS) : DdS := fun DD s ks => it s fun items k0 => ∃ Inv : Nat → S → List (List Int) → Prop, Inv 0 (s.at k0) ks ∧
  (∀ n d s' ks', items[n]? = some d → Inv n s' ks' → g d s' fun s2 => dcS i s2 ∧ body { nx := Inv (n + 1), rt := DD.rt, ct := Inv (n + 1), bk := DD.nx } s2 ks') ∧ ∀ s' ks', Inv items.length s' ks' → DD.nx s' ks'
abbrev ddPut (t : DE) : DdS := fun DD s ks => t s fun d k => ∃ r, d = tuI r ∧ ks.length ≤ 1000000 ∧ DD.nx (s.at k) (if r ∈ ks then ks else ks ++ [r])
section
variable {X : Cx} {c : C} {i : Nat} {pos : Pos}
theorem pss_dd1 {st : Stmt} {t : DdS} (h : PS X st (LDd c i t)) : PSs X [st] (LDd c i t) := pss_one h
theorem pss_ddc {st : Stmt} {r : List Stmt} {t u : DdS} (h1 : PS X st (LDd c i t)) (h2 : PSs X r (LDd c i u)) : PSs X (st :: r) (LDd c i (ddSeq t u)) :=
  (pss_cons h1 h2).weak fun D σ H ⟨p, L, s, DD, rp, a, q, f⟩ => ⟨p, L, s, { DD with nx := u DD }, rp, a, q, ⟨fun s' σ' H' L' r' b z q' => ⟨p, L', s', DD, r', z, q', f.on b⟩, f.bk, f.ct, f.rt⟩⟩
theorem ps_ddfor {tg iter : Expr} {body : List Stmt} {it : DI} {g : DG} {tb : DdS} {ts : List Nat} (hp : PassesOwn (model X.prog X.w) X.A X.env X.xe) (hc : X.calm = true) (hi : PI X tg iter (LI c it)) (hg : PG X tg (LG c ts g)) (hts : i ∉ ts) (hb : PSs X body (LDd c i tb))
    (hs : ∀ x, foldedSetIterable iter X.env x = pure x := by intro _; rfl) : PS X (.For tg iter body [] pos) (LDd c i (ddFor i it g tb)) :=
  (ps_for hp hc hi hg hb hs).weak fun D σ H ⟨p, L, s, DD, rp, dc, q, f⟩ => by
    refine ⟨s, _, rp, q, fun items k0 ⟨IV, i0, turn, fin⟩ J H1 r1 a1 yl => ?_⟩
    refine ⟨fun n m σ' H' => m = items.length - n ∧ n ≤ items.length ∧ ∃ s' L', IV n s' (L'.map (·.2)) ∧ Rep c s' σ' H' ∧ DcAt c i p L' s' σ' H' ∧ Adv' c s.X H1 s'.X H', ⟨items.length, by simp, Nat.zero_le _, s.at k0, L, i0, r1, dc.on a1, Sub.refl _⟩, ?_⟩
    rintro n m σ' H' ⟨rfl, hn', s', L', hI, rp', dc', ad⟩
    obtain ⟨yl1, yl2⟩ := yl n s' σ' H' rp' ad
    by_cases hlt : n < items.length
    · obtain ⟨d, hd⟩ : ∃ d, items[n]? = some d := ⟨items[n], by simp [hlt]⟩
      obtain ⟨go, yd⟩ := yl2 d hd
      refine .inr ⟨go, fun σ2 H2 => ∃ s' L', IV (n + 1) s' (L'.map (·.2)) ∧ Rep c s' σ2 H2 ∧ DcAt c i p L' s' σ2 H2 ∧ Adv' c s.X H1 s'.X H2, fun σ2 H2 ⟨s2, L2, h⟩ => ⟨items.length - (n + 1), by omega, rfl, hlt, s2, L2, h⟩, fun x H2 hy => ?_⟩
      obtain ⟨r2, a2, e2⟩ := yd x H2 hy
      refine ⟨s', _, d, r2, e2, turn n d s' _ hd hI, fun s3 ⟨o1, h3⟩ σ3 H3 r3 a3 x3 sm _ => ?_⟩
      have ad3 : Adv' c s.X H1 s3.X H3 := (ad.trans a2.sub).trans (x3 ▸ a3.sub)
      have dc3 : DcAt c i p L' s3 σ3 H3 := ⟨o1, by rw [sm i hts]; exact dc'.at_, by rw [x3]; exact dc'.mem, dc'.out, by rw [a3.own p dc'.mem, a2.own p dc'.mem]; exact dc'.obj, fun y hy => by rw [x3]; exact a3.sub.st (a2.sub.st (dc'.keys y hy))⟩
      exact ⟨p, L', s3, _, r3, dc3, h3, ⟨fun s4 σ4 H4 L4 r4 a4 z4 h4 => ⟨s4, L4, h4, r4, z4, ad3.trans a4⟩, fun s4 σ4 H4 L4 r4 a4 z4 h4 => f.nx s4 σ4 H4 L4 r4 (a1.sub.trans (ad3.trans a4)) z4 h4, fun s4 σ4 H4 L4 r4 a4 z4 h4 => ⟨s4, L4, h4, r4, z4, ad3.trans a4⟩, f.rt⟩⟩
    · have e : n = items.length := by omega
      subst e
      exact .inl ⟨yl1 (Nat.le_refl _), f.nx s' σ' H' L' rp' (a1.sub.trans ad) dc' (fin s' _ hI)⟩
theorem dbe_code {p : Addr} {L : List (Addr × List Int)} {q : PySem.Str} : HO.ext (DbE p L) ≠ LamX.CodeO p q := fun z => by
  unfold LamX.CodeO at z
  have e := HO.ext.inj z
  obtain ⟨h, hh⟩ := heap_at p { cls := .none, data := .fields #[.none, .str q default] } rfl
  have e2 := congrFun e h
  have : DbE p L h := by
    rw [e2]
    exact ⟨_, _, default, hh, rfl, rfl⟩
  obtain ⟨o, es, ep, h1, h2, h3, _⟩ := this
  rw [hh] at h1
  cases h1
  cases h3
theorem dbe_tb {p : Addr} {L L' : List (Addr × List Int)} {H : Hp} (h : H p = some (.ext (DbE p L))) : TbK H (upd H p (.ext (DbE p L'))) := .at_ h (by intro _ z; cases z) (fun q => dbe_code) (by intro _ z; cases z) (by intro _ _ z; cases z)
theorem map_addB (L : List (Addr × List Int)) (q : Addr) (r : List Int) : (addB L q r).map (·.2) = if r ∈ L.map (·.2) then L.map (·.2) else L.map (·.2) ++ [r] := by
  unfold addB
  split
  · rfl
  · rw [List.map_append]; rfl
theorem ps_ddput {j : Nat} (hr : Room j X.A) (hK : c.K = X.K) {y : PySem.Str} {pn p1 p2 : Pos} {jc : Nat} {e : Expr} {t : DE} (he : PE X e (LE c t)) (hN : X.N[i]? = some y := by rfl) (hv : Vis X.env.scope y := by first | exact Or.inl rfl | exact Or.inr (Or.inl rfl) | exact Or.inr (Or.inr rfl)) (hd : (y == ("__debug__" : PySem.Str)) = false := by decide) (hcd : (y == ("__classdict__" : PySem.Str)) = false := by decide)
    (ha : ∀ v, assign (.Subscript (.Name y pn) e p2) X.env v = (do
      let ov ← holding [v] (eval (.Name y pn) X.env)
      let iv ← holding [v, ov] (eval e X.env)
      standAt p2
      holding [v, ov, iv] (setItem ov iv v)
      release [v, ov, iv] []) := by intro _; rfl)
    (hs : swapsWithSole [.Subscript (.Name y pn) e p2] (.Constant (.bool true) jc p1) pos.line X.env = pure false := by rfl) (hw : swappedStores [.Subscript (.Name y pn) e p2] (.Constant (.bool true) jc p1) X.env = pure none := by rfl)
    (hA : (assignEach [.Subscript (.Name y pn) e p2] X.env).map (·.2) = [assign (.Subscript (.Name y pn) e p2) X.env] := by rfl) :
    PS X (.Assign [.Subscript (.Name y pn) e p2] (.Constant (.bool true) jc p1) pos) (LDd c i (ddPut t)) :=
  (ps_asg pe_bl (pg_sub (pe_var hN hv hd hcd) he (set_B (hu_of hr)) ha) hs hw hA).weak fun D σ H ⟨p, L, s, DD, rp, dc, q, f⟩ => by
    refine ⟨_, dc.at_, s, _, rp, q, fun d k ⟨rr, hd, hl, hR⟩ v H1 r1 a1 e1 => ?_⟩
    subst hd
    obtain ⟨qa, vs, rfl, h1, ra⟩ := e1.tupE
    obtain rfl := ra.ints_v
    have dc1 := dc.on (k := k) a1
    rw [List.length_map] at hl
    refine ⟨p, qa, L, rr, rfl, rfl, rfl, dc1.obj, fun x hx => hK ▸ (wo_sub _ _ : Sub _ _).st (dc1.keys x hx), hK ▸ (wo_sub _ _ : Sub _ _).st h1, hl, ?_⟩
    have m := Rep.mutX (s := s.at k) r1 (o := .ext (DbE p (addB L qa rr))) dc1.mem dc1.out (fun j ds => dc1.noown r1 j ds) (dbe_tb dc1.obj)
    refine f.nx _ σ _ (addB L qa rr) m.1 (a1.sub.trans m.2) ⟨dc1.slot, dc1.at_, dc1.mem, dc1.out, upd_same, fun x hx => m.2.st ?_⟩ (by rw [map_addB]; exact hR)
    unfold addB at hx
    split at hx
    · exact dc1.keys x hx
    · rcases List.mem_append.mp hx with hx | hx
      · exact dc1.keys x hx
      · rw [List.mem_singleton.mp hx]; exact h1
end
end DL
set_option maxHeartbeats 1000000
namespace DL
open PySem L2
open PySem.W (Frag)
end DL
set_option maxHeartbeats 1000000
namespace DL
open PySem L2
open PySem.W (Frag)
section
variable {X : Cx} {pins : List (Addr × Obj)} {σ : St} {H : Hp} {s : Shared} {p q : Addr} {L : List (Addr × List Int)} {r : List Int}
theorem atB_some (nd : (L.map (·.2)).Nodup) (h : r ∈ L.map (·.2)) : ∃ a, atKey (xsB L) r = some (a, .bool true) := by
  obtain ⟨i, hi⟩ := List.getElem?_of_mem h
  rw [List.getElem?_map] at hi
  obtain ⟨x, hx, rfl⟩ := Option.map_eq_some_iff.mp hi
  exact ⟨x.1, atKey_of_get (i := i) (by rw [xsB_keys]; exact nd) (by unfold xsB; rw [List.getElem?_map, hx]; rfl)⟩
theorem atB_none (h : r ∉ L.map (·.2)) : atKey (xsB L) r = none := by
  refine atKey_none_of_get fun j y e => h ?_
  unfold xsB at e
  rw [List.getElem?_map] at e
  obtain ⟨x, hx, ex⟩ := Option.map_eq_some_iff.mp e
  have : r = x.2 := (congrArg Prod.fst ex).symm
  rw [this]
  exact List.mem_map.mpr ⟨x, List.mem_of_getElem? hx, rfl⟩
def rNinB (K : Frag) : R2 := fun x y H Q => ∃ p q L r, x = .ref q ∧ y = .ref p ∧ H p = some (.ext (DbE p L)) ∧ KsB K H L ∧ SqT K H q (r.map V.int) ∧ Q (.bl (!decide (r ∈ L.map (·.2)))) H
theorem op_ninB (hu : X.A.units + 1 < cLine) : OpR X (compareOp .NotIn) (rNinB X.K) := by
  intro pins s σ H x y v u Q I rx ry h
  obtain ⟨p, q, L, r, rfl, rfl, e, hk, hq, h⟩ := h
  cases (show v = Value.ref q from rx)
  cases (show u = Value.ref p from ry)
  obtain ⟨dd, hd, nd⟩ := dib_of I e hk
  refine PyProof.Rows.wpAny_notIn_heap (tupleKind_room_in1 hu) (Inv.isT I hq) hd dd ?_
  refine ⟨.bl _, H, I.tok _, rfl, ?_⟩
  by_cases z : r ∈ L.map (·.2)
  · obtain ⟨a, e⟩ := atB_some nd z
    rw [e]
    rw [decide_eq_true z] at h
    exact h
  · rw [atB_none z]
    rw [decide_eq_false z] at h
    exact h
end
end DL
set_option maxHeartbeats 1000000
namespace DL
open PySem L2
open PySem.W (Frag dataLe AllAlike Sortable alike)
theorem py_tuI (w : List Int) : (tuI w).py = pyI w := by
  show PyData.tuple (pyA (w.map D.int)) = _
  rw [py_ints]
theorem sortU_ok (L : List (List Int)) (h : ∀ w ∈ L, w ≠ []) : (∀ w ∈ L, (tuI w).py.depth ≤ 60) ∧ AllAlike (L.map fun w => (tuI w).py) ∧ Sortable (L.map fun w => (tuI w).py) := by
  have e : (L.map fun w => (tuI w).py) = L.map pyI := List.map_congr_left fun w _ => py_tuI w
  refine ⟨fun a _ => ?_, ?_, ?_⟩
  · show PyData.depthAll (pyA (a.map D.int)) + 1 ≤ 60
    rw [py_ints, PySem.W.depth_ints]; decide
  · rw [e]
    exact AllAlike.of fun a b => alike_pyI a b
  · rw [e]
    refine .inl fun d hd => ?_
    obtain ⟨w, hw, rfl⟩ := List.mem_map.mp hd
    cases w with
    | nil => exact absurd rfl (h _ hw)
    | cons a w => exact ⟨_, _, rfl⟩
section
variable {X : Cx}
theorem cr_sorted1 : CallR X (.builtin "sorted") (fun vs H Q => ∃ (a : Addr) (xs : List V), vs = [V.ref a] ∧ SqL X.K H a xs ∧ xs.length ≤ 1 ∧ ∀ p, H p = none → Q (V.ref p) (upd H p (.lst xs))) := by
  intro pins s σ H vs us Q I r h
  obtain ⟨a, xs, rfl, hs, hl, q⟩ := h
  obtain ⟨its, rv, hli, _⟩ := I.list hs
  rw [Vals.ref1 r]
  have hln := rv.length
  refine _root_.Srt.sorted_any hli.isList (by rw [sizeLine_eq]; omega) (fun h2 => by omega) fun out ho => ?_
  have eo : out = its := by
    match its, hln, ho with
    | [], _, ho => exact List.perm_nil.mp ho
    | [z], _, ho => exact List.perm_singleton.mp ho
    | _ :: _ :: _, e, _ => simp at e; omega
  subst eo
  obtain ⟨ep, he'⟩ := PyProof.Rows.sortedAll_at s.heap out out.toArray
  exact ⟨.ref _, upd H (s.heap.objs.size + 1) (.lst xs), I.laid (t' := s.toks) (fun _ _ => PyProof.Rows.sortedAll_old) (Nat.le_succ _) ⟨by rw [sizeLine_eq]; omega, out, ep, rv, he'⟩, rfl, q _ (I.hok.fresh (Nat.le_succ _))⟩
theorem cr_sortedW (hu : X.A.units + 64 < cLine) : CallR X (.builtin "sorted") (fun vs H Q => ∃ (a : Addr) (L : List (Addr × List Int)), vs = [V.ref a] ∧ SqL X.K H a (L.map fun x => V.ref x.1) ∧ KsB X.K H L ∧ (L.length ≤ 1 ∨ ∀ p ∈ L, p.2 ≠ []) ∧ L.length ≤ 1000000 ∧
    ∀ p, H p = none → Q (V.ref p) (upd H p (.lst ((L.mergeSort leP).map fun q => V.ref q.1)))) := by
  intro pins s σ H vs us Q I r h
  obtain ⟨a, L, rfl, hs, hk, hne, hz, q⟩ := h
  rcases Nat.lt_or_ge 1 L.length with c | c
  · have hne : ∀ p ∈ L, p.2 ≠ [] := hne.resolve_left (by omega)
    let g : Addr × List Int → V × PyData := fun x => (V.ref x.1, (tuI x.2).py)
    have m1 : (L.map g).map (·.1) = L.map fun x => V.ref x.1 := by rw [List.map_map]; rfl
    have m2 : (L.map g).map (·.2) = (L.map (·.2)).map fun w => (tuI w).py := by rw [List.map_map, List.map_map]; rfl
    obtain ⟨q1, q2, q3⟩ := sortU_ok (L.map (·.2)) (fun w hw => by
      obtain ⟨x, hx, rfl⟩ := List.mem_map.mp hw
      exact hne x hx)
    refine cr_sortedD hu pins s σ H [.ref a] us Q I r ⟨a, L.map g, rfl, by rw [m1]; exact hs, fun z hz => ?_, by rw [m2]; exact q2, by rw [m2]; exact q3, by rw [List.length_map, sizeLine_eq]; omega, fun z hz => ?_, fun p hp => ?_⟩
    · obtain ⟨x, hx, rfl⟩ := List.mem_map.mp hz
      exact Rl.dp (tuI x.2) (.tup (hk x hx) (RlA.ints _)) (DL.plain_ints x.2)
    · obtain ⟨x, hx, rfl⟩ := List.mem_map.mp hz
      exact q1 _ (List.mem_map.mpr ⟨x, hx, rfl⟩)
    · have e : (L.map g).mergeSort (dataLe false (Prod.snd : V × PyData → PyData)) = (L.mergeSort leP).map g := by
        refine (List.map_mergeSort fun a _ b _ => ?_).symm
        show (!PySem.W.dataLt (pyI b.2) (pyI a.2)) = !PySem.W.dataLt (tuI b.2).py (tuI a.2).py
        rw [py_tuI, py_tuI]
      rw [e, List.map_map]
      exact q p hp
  · have e : L.mergeSort leP = L := by
      match L, c with
      | [], _ => exact List.mergeSort_nil
      | [x], _ => exact List.mergeSort_singleton x
      | _ :: _ :: _, c => simp at c
    rw [e] at q
    exact cr_sorted1 pins s σ H [.ref a] us Q I r ⟨a, _, rfl, hs, by rw [List.length_map]; exact c, q⟩
end
end DL
set_option maxHeartbeats 1000000
namespace DL
open PySem L2
open PySem.W (Frag)
section
variable {c : C} {s : S} {σ : L2.St} {H H1 : Hp} {k : Nat}
theorem Rep.frz1 {j : Nat} {p : Addr} {ds : List D} (r : Rep c s σ H) (h : s.sl[j]? = some (.own p ds)) : Rep c ⟨s.X.filter (fun a => decide (a ≠ p)), s.sl.set j (.dat (.lst ds)), s.k⟩ σ H ∧ Sub (c.hid s.X H) (c.hid (s.X.filter (fun a => decide (a ≠ p))) H) := by
  obtain ⟨e1, h1, h2, h3, vs, h4, h5⟩ := r.slot j _ h
  have mf : ∀ a, a ∈ s.X.filter (fun a => decide (a ≠ p)) → a ∈ s.X := fun a ha => (List.mem_filter.mp ha).1
  have sb : Sub (c.hid s.X H) (c.hid (s.X.filter (fun a => decide (a ≠ p))) H) := wo_more fun a ha => List.mem_append.mpr ((List.mem_append.mp ha).imp id (mf a))
  refine ⟨⟨r.sub.trans sb, r.old, fun a ha => List.mem_filter.mpr ⟨r.x0 a ha, decide_eq_true fun z => h2 (z ▸ ha)⟩, fun a ha => r.xm a (mf a ha), fun a ha => r.xs a (mf a ha), r.m, fun i x e => ?_, fun i l q w as bs q1 q2 ne => ?_, by show (s.sl.set j _).length = _; rw [List.length_set]; exact r.len, r.tb, fun a ha => r.xt a (mf a ha)⟩, sb⟩
  · rcases get_set_cases e with ⟨rfl, rfl, hl⟩ | ⟨ne, q⟩
    · refine ⟨_, e1, .lst (wo_of (fun z => ?_) h4) (h5.mono sb)⟩
      rcases List.mem_append.mp z with z | z
      · exact r.xm p h1 z
      · exact of_decide_eq_true (List.mem_filter.mp z).2 rfl
    · have o := r.slot i x q
      cases x with
      | no => trivial
      | dat d =>
        obtain ⟨v, e, h⟩ := o
        exact ⟨v, e, h.mono sb⟩
      | own w as =>
        obtain ⟨q1, q2, q3, q4, us, q5, q6⟩ := o
        exact ⟨q1, List.mem_filter.mpr ⟨q2, decide_eq_true (r.apart i j w p as ds q h fun z => ne z.symm)⟩, q3, q4, us, q5, q6.mono sb⟩
      | mst => exact o
      | kds N Z => exact o
      | scr ns =>
        obtain ⟨v, e, h⟩ := o
        exact ⟨v, e, sb.sl h⟩
  · rcases get_set_cases q1 with ⟨_, q1, _⟩ | ⟨n1, q1⟩
    · cases q1
    · rcases get_set_cases q2 with ⟨_, q2, _⟩ | ⟨n2, q2⟩
      · cases q2
      · exact r.apart i l q w as bs q1 q2 ne
end
end DL
set_option maxHeartbeats 1000000
namespace DL
open PySem L2
open PySem.W (Frag)
theorem DcAt.put {c : C} {i j : Nat} {p : Addr} {L : List (Addr × List Int)} {s : S} {σ : L2.St} {H : Hp} {x : Sl} {v : V} (a : DcAt c i p L s σ H) (ne : j ≠ i) : DcAt c i p L (s.put j x) (σ.set j (some v)) H :=
  ⟨by show (s.sl.set j x)[i]? = _; rw [List.getElem?_set_ne ne]; exact a.slot, by rw [List.getElem?_set_ne ne]; exact a.at_, a.mem, a.out, a.obj, a.keys⟩
abbrev ddSet (j : Nat) (t : DE) : DdS := fun DD s ks => t s fun d k => DD.nx ((s.at k).put j (.dat d)) ks
abbrev ddSetO (j : Nat) (t : DA) : DdS := fun DD s ks => t s fun ds k => ∀ p, p ∉ s.X → DD.nx ((s.own p k).put j (.own p ds)) ks
abbrev ddApp (j : Nat) (t : DE) : DdS := fun DD s ks => ∃ p ds, s.sl[j]? = some (.own p ds) ∧ t s fun d k => ds.length < lim ∧ DD.nx ((s.put j (.own p (ds ++ [d]))).at k) ks
abbrev DdT := S → List (List Int) → (Bool → Nat → Prop) → Prop
def LTd (c : C) (i : Nat) (t : DdT) : TT := fun σ H Q => ∃ p L s R, Rep c s σ H ∧ DcAt c i p L s σ H ∧ t s (L.map (·.2)) R ∧ ∀ b k, R b k → ∀ H', Rep c (s.at k) σ H' → AdvE c s.X H H' → Q b H'
abbrev ddT (t : DT) : DdT := fun s _ R => t s R
abbrev ddNin (t : DE) : DdT := fun s ks R => t s fun d k => ∃ r, d = tuI r ∧ R (!decide (r ∈ ks)) k
abbrev ddAnd (t u : DdT) : DdT := fun s ks R => t s ks fun b k => if b = true then u (s.at k) ks R else R false k
abbrev ddIf (t : DdT) (a b : DdS) : DdS := fun DD s ks => t s ks fun x k => if x = true then a DD (s.at k) ks else b DD (s.at k) ks
abbrev ddWhile (t : DT) (body : DdS) : DdS := fun DD s ks => ∃ Inv : Nat → S → List (List Int) → Prop, (∃ m, Inv m s ks) ∧ ∀ m s' ks', Inv m s' ks' → t s' fun b k =>
  if b = true then body { DD with nx := fun s2 k2 => ∃ m', m' < m ∧ Inv m' s2 k2, ct := fun s2 k2 => ∃ m', m' < m ∧ Inv m' s2 k2, bk := DD.nx } (s'.at k) ks' else DD.nx (s'.at k) ks'
abbrev ddFz (l j : Nat) : DdS := fun DD s ks => ∃ q ds, s.sl[j]? = some (.own q ds) ∧ ∀ X, DD.nx ⟨X, (s.sl.set j (.dat (.lst ds))).set l (.dat (.lst ds)), s.k⟩ ks
abbrev ddRetL : DdS := fun DD s ks => (ks.length ≤ 1 ∨ ∀ r ∈ ks, r ≠ []) ∧ ks.length ≤ 1000000 ∧ DD.rt (.lst ((ks.mergeSort leI).map tuI)) s.k
section
variable {X : Cx} {c : C} {i : Nat} {pos : Pos}
theorem ps_ddset (j : Nat) {x : PySem.Str} {e : Expr} {t : DE} {pos' : Pos} (hN : X.N.Nodup) (he : PE X e (LE c t)) (ne : j ≠ i := by decide) (hi : X.N[j]? = some x := by rfl) (hx : Loc X.env.scope x := by first | exact Or.inl rfl | exact Or.inr rfl) (hs : swapsWith e (some (.Name x pos')) pos.line X.env = pure false := by rfl) (hf : X.fn x = true ∨ X.env.scope.names.lookup x = some .local := by first | exact .inl rfl | exact .inr rfl) :
    PS X (.Assign [.Name x pos'] e pos) (LDd c i (ddSet j t)) :=
  (ps_set hN hi hx he hs hf).weak fun D σ H ⟨p, L, s, DD, rp, dc, q, f⟩ => ⟨s, _, rp, q, fun d k h v H1 r1 a1 e1 => f.nx _ _ H1 L (r1.putD e1) a1.sub ((dc.on a1).put ne) h⟩
theorem ps_ddsetO (j : Nat) {x : PySem.Str} {e : Expr} {t : DA} {pos' : Pos} (hN : X.N.Nodup) (he : PE X e (LF c t)) (ne : j ≠ i := by decide) (hi : X.N[j]? = some x := by rfl) (hx : Loc X.env.scope x := by first | exact Or.inl rfl | exact Or.inr rfl) (hs : swapsWith e (some (.Name x pos')) pos.line X.env = pure false := by rfl) (hf : X.fn x = true ∨ X.env.scope.names.lookup x = some .local := by first | exact .inl rfl | exact .inr rfl) :
    PS X (.Assign [.Name x pos'] e pos) (LDd c i (ddSetO j t)) :=
  (ps_set hN hi hx he hs hf).weak fun D σ H ⟨p, L, s, DD, rp, dc, q, f⟩ => ⟨s, _, rp, q, fun ds k h p' H1 n => f.nx _ _ H1 L (n.put rp j) n.sub (DcAt.put (s := s.own p' k) ⟨dc.slot, dc.at_, List.mem_cons_of_mem _ dc.mem, dc.out, by rw [n.own p dc.mem]; exact dc.obj, fun x hx => n.sub.st (dc.keys x hx)⟩ ne) (h p' n.out)⟩
theorem ps_ddapp (j : Nat) {x : PySem.Str} {pn apos cpos : Pos} {e : Expr} {t : DE} (he : PE X e (LE c t)) (hN : X.N[j]? = some x := by rfl) (hv : Vis X.env.scope x := by first | exact Or.inl rfl | exact Or.inr (Or.inl rfl) | exact Or.inr (Or.inr rfl)) (hd : (x == ("__debug__" : PySem.Str)) = false := by decide) (hcd : (x == ("__classdict__" : PySem.Str)) = false := by decide)
    (hbase : attributeBase (Expr.Name x pn) "append" X.env (eval (Expr.Name x pn) X.env) = eval (Expr.Name x pn) X.env := by rfl)
    (hfew : ((backTo cpos (starEach (e :: []) X.env)).all (fun x => !x.1) && (backToKw cpos (keywordEach [] X.env)).all (fun x => x.1.isSome) && decide ((e :: []).length + ([] : List Keyword).length + (if ([] : List Keyword).isEmpty then 0 else 1) < 30)) = true := by rfl)
    (hline : (apos.endLine == cpos.line) = true := by rfl) (hs : starEach (e :: []) X.env = (false, eval e X.env) :: starEach [] X.env := by rfl) (hplain : (backTo cpos (starEach [] X.env)).any (·.1) = false := by rfl)
    (hsw : swapsWith (.Call (.Attribute (.Name x pn) "append" apos) [e] [] cpos) none pos.line X.env = pure false := by rfl) :
    PS X (.Expr (.Call (.Attribute (.Name x pn) "append" apos) [e] [] cpos) pos) (LDd c i (ddApp j t)) :=
  (ps_expr (pe_bm PySem.F.plainAttrs_list PySem.F.slot_list_append PySem.F.type_list_append mt_append (pe_var hN hv hd hcd) (pa_cons he pa_nil hs) hbase hfew hline hs hplain) hsw).weak fun D σ H ⟨a, L, s, DD, rp, dc, ⟨p, ds, h, q⟩, f⟩ => by
    obtain ⟨e1, h1, h2, h3, vs, h4, h5⟩ := rp.slot j _ h
    refine ⟨_, e1, .inl ⟨rfl, _, SqL.of h4⟩, s, _, rp, q, fun d k ⟨hl, hR⟩ v H1 r1 a1 e2 => ?_⟩
    have h6 : H1 p = some (.lst vs) := by rw [a1.own p h1]; exact h4
    refine ⟨p, vs, v, rfl, rfl, h6, by rw [h5.len]; exact lim_lt (Nat.le_of_lt hl), ?_⟩
    have m := Rep.mut (s := s.at k) r1 h ((h5.mono a1.sub).app (.cons e2 .nil))
    have dc1 := dc.on (k := k) a1
    have np : a ≠ p := fun z => by
      have o := dc1.obj
      rw [z, h6] at o
      cases o
    have ji : j ≠ i := fun z => by
      rw [z] at h
      rw [dc.slot] at h
      cases h
    refine f.nx _ σ _ L m.1 (a1.sub.trans m.2) ⟨?_, dc1.at_, dc1.mem, dc1.out, by rw [upd_ne np]; exact dc1.obj, fun y hy => m.2.st (dc1.keys y hy)⟩ hR
    show (s.sl.set j _)[i]? = _
    rw [List.getElem?_set_ne ji]
    exact dc.slot
theorem pt_dd {e : Expr} {t : DT} (h : PT X e (LT c t)) : PT X e (LTd c i (ddT t)) := h.weak fun σ H Q ⟨p, L, s, R, rp, dc, q, f⟩ => ⟨s, R, rp, q, f⟩
theorem pt_ddnin {l : Nat} (hr : Room l X.A) (hK : c.K = X.K) {y : PySem.Str} {e : Expr} {t : DE} {p2 p3 : Pos} (he : PE X e (LE c t)) (hN : X.N[i]? = some y := by rfl) (hv : Vis X.env.scope y := by first | exact Or.inl rfl | exact Or.inr (Or.inl rfl) | exact Or.inr (Or.inr rfl)) (hd : (y == ("__debug__" : PySem.Str)) = false := by decide) (hcd : (y == ("__classdict__" : PySem.Str)) = false := by decide)
    (hm : behindInMarks .NotIn (.Name y p2) = false := by first | exact nomark _ | rfl) : PT X (.Compare e [.NotIn] [.Name y p2] p3) (LTd c i (ddNin t)) :=
  (pt_cmpR (op_ninB (hu_of hr)) he (pe_var hN hv hd hcd) hm).weak fun σ H Q ⟨p, L, s, R, rp, dc, q, f⟩ => ⟨s, _, rp, q, fun d k ⟨r, hd, hR⟩ v H1 r1 a1 e1 => by
    subst hd
    obtain ⟨qa, vs, rfl, h1, ra⟩ := e1.tupE
    obtain rfl := ra.ints_v
    have dc1 := dc.on (k := k) a1
    exact ⟨_, dc1.at_, p, qa, L, r, rfl, rfl, dc1.obj, fun x hx => hK ▸ (wo_sub _ _ : Sub _ _).st (dc1.keys x hx), hK ▸ (wo_sub _ _ : Sub _ _).st h1, _, rfl, f _ k hR H1 r1 a1⟩⟩
theorem pw_ddand1 {a : Expr} {t : DdT} (ha : PT X a (LTd c i t)) : PW X (.BoolOp .And [a] pos) (LTd c i t) := pw_and1 ha
theorem pw_ddand {a b : Expr} {rest : List Expr} {t u : DdT} (ha : PT X a (LTd c i t)) (hb : PW X (.BoolOp .And (b :: rest) pos) (LTd c i u)) : PW X (.BoolOp .And (a :: b :: rest) pos) (LTd c i (ddAnd t u)) :=
  (pw_and ha hb).weak fun σ H Q ⟨p, L, s, R, rp, dc, q, f⟩ => by
    refine ⟨p, L, s, _, rp, dc, q, fun b k hb H1 r1 a1 => ?_⟩
    cases b with
    | true => exact ⟨p, L, s.at k, R, r1, dc.on a1, hb, fun b' k' hR H2 r2 a2 => f b' k' hR H2 r2 (a1.trans a2)⟩
    | false => exact f false k hb H1 r1 a1
theorem pss_ddnil : PSs X [] (LDd c i ddNext) := pss_nil.weak fun D σ H ⟨p, L, s, DD, rp, dc, q, f⟩ => f.nx s σ H L rp (Sub.refl _) dc q
theorem ps_ddif {t : Expr} {a b : List Stmt} {tt : DdT} {ta tb : DdS} (ht : PT X t (LTd c i tt)) (ha : PSs X a (LDd c i ta)) (hb : PSs X b (LDd c i tb)) : PS X (.If t a b pos) (LDd c i (ddIf tt ta tb)) :=
  (ps_if ht ha hb).weak fun D σ H ⟨p, L, s, DD, rp, dc, q, f⟩ => ⟨p, L, s, _, rp, dc, q, fun x k h H1 r1 a1 => by
    cases x with
    | true => exact ⟨p, L, s.at k, DD, r1, dc.on a1, h, f.on a1.sub⟩
    | false => exact ⟨p, L, s.at k, DD, r1, dc.on a1, h, f.on a1.sub⟩⟩
theorem ps_ddwhile {t : Expr} {body : List Stmt} {tt : DT} {tb : DdS} (hp : PassesOwn (model X.prog X.w) X.A X.env X.xe) (ht : PT X t (LT c tt)) (hb : PSs X body (LDd c i tb)) : PS X (.While t body [] pos) (LDd c i (ddWhile tt tb)) :=
  (ps_while hp ht hb).weak fun D σ H ⟨p, L, s, DD, rp, dc, ⟨IV, ⟨m0, i0⟩, turn⟩, f⟩ => by
    refine ⟨fun m σ' H' => ∃ s' L', IV m s' (L'.map (·.2)) ∧ Rep c s' σ' H' ∧ DcAt c i p L' s' σ' H' ∧ Adv' c s.X H s'.X H', ⟨m0, s, L, i0, rp, dc, Sub.refl _⟩, ?_⟩
    rintro m σ' H' ⟨s', L', hI, rp', dc', ad⟩
    refine ⟨s', _, rp', turn m s' _ hI, fun b k h H1 r1 a1 => ?_⟩
    have ad1 : Adv' c s.X H s'.X H1 := ad.trans a1.sub
    cases b with
    | true =>
      refine iteT ⟨fun σ2 H2 => ∃ m', m' < m ∧ ∃ s2 L2, IV m' s2 (L2.map (·.2)) ∧ Rep c s2 σ2 H2 ∧ DcAt c i p L2 s2 σ2 H2 ∧ Adv' c s.X H s2.X H2, fun σ2 H2 h => h, p, L', s'.at k, _, r1, dc'.on a1, h, ?_⟩
      exact ⟨fun s4 σ4 H4 L4 r4 a4 z4 ⟨m', hm, h4⟩ => ⟨m', hm, s4, L4, h4, r4, z4, ad1.trans a4⟩, fun s4 σ4 H4 L4 r4 a4 z4 h4 => f.nx s4 σ4 H4 L4 r4 (ad1.trans a4) z4 h4, fun s4 σ4 H4 L4 r4 a4 z4 ⟨m', hm, h4⟩ => ⟨m', hm, s4, L4, h4, r4, z4, ad1.trans a4⟩, f.rt⟩
    | false => exact iteF (f.nx (s'.at k) σ' H1 L' r1 ad1 (dc'.on a1) h)
theorem ps_ddfz (l j : Nat) {x y : PySem.Str} {py pos' : Pos} (hN : X.N.Nodup) (ne : l ≠ i := by decide) (hi : X.N[l]? = some x := by rfl) (hj : X.N[j]? = some y := by rfl) (hv : Vis X.env.scope y := by first | exact Or.inl rfl | exact Or.inr (Or.inl rfl) | exact Or.inr (Or.inr rfl)) (hd : (y == ("__debug__" : PySem.Str)) = false := by decide) (hcd : (y == ("__classdict__" : PySem.Str)) = false := by decide)
    (hx : Loc X.env.scope x := by first | exact Or.inl rfl | exact Or.inr rfl) (hs : swapsWith (.Name y py) (some (.Name x pos')) pos.line X.env = pure false := by rfl) (hf : X.fn x = true ∨ X.env.scope.names.lookup x = some .local := by first | exact .inl rfl | exact .inr rfl) :
    PS X (.Assign [.Name x pos'] (.Name y py) pos) (LDd c i (ddFz l j)) :=
  (ps_set hN hi hx (pe_var hj hv hd hcd) hs hf).weak fun D σ H ⟨p, L, s, DD, rp, dc, ⟨q, ds, hq, hR⟩, f⟩ => by
    obtain ⟨e1, h1, h2, h3, vs, h4, h5⟩ := rp.slot j _ hq
    obtain ⟨r1, sb⟩ := rp.frz1 hq
    have np : p ≠ q := fun z => by
      have o := dc.obj
      rw [z, h4] at o
      cases o
    have ji : j ≠ i := fun z => by
      rw [z] at hq
      rw [dc.slot] at hq
      cases hq
    have hl : j < s.sl.length := (List.getElem?_eq_some_iff.mp hq).1
    obtain ⟨v, e2, h6⟩ := r1.slot j (.dat (.lst ds)) (List.getElem?_set_self hl)
    rw [e1] at e2
    cases e2
    have dcf : DcAt c i p L ⟨s.X.filter (fun a => decide (a ≠ q)), s.sl.set j (.dat (.lst ds)), s.k⟩ σ H :=
      ⟨by show (s.sl.set j _)[i]? = _; rw [List.getElem?_set_ne ji]; exact dc.slot, dc.at_, List.mem_filter.mpr ⟨dc.mem, decide_eq_true np⟩, dc.out, dc.obj, fun y hy => sb.st (dc.keys y hy)⟩
    exact ⟨_, e1, f.nx _ _ H L (r1.putD (i := l) h6) sb (dcf.put ne) (hR _)⟩
theorem ps_ddretL {j : Nat} (hr : Room j X.A) (hK : c.K = X.K) (hc : X.calm = true) (hm : X.mg "sorted" = none) (hm2 : X.mg "list" = none) {y : PySem.Str} {pn pl pl2 p2 p3 : Pos} (hN : X.N[i]? = some y := by rfl) (hv : Vis X.env.scope y := by first | exact Or.inl rfl | exact Or.inr (Or.inl rfl) | exact Or.inr (Or.inr rfl)) (hd : (y == ("__debug__" : PySem.Str)) = false := by decide) (hcd : (y == ("__classdict__" : PySem.Str)) = false := by decide) (hgl : Gl X "sorted" := by rfl) (hgl2 : Gl X "list" := by rfl)
    (hst : starEach [Expr.Name y pn] X.env = (false, eval (Expr.Name y pn) X.env) :: starEach [] X.env := by rfl) (hpl : (backTo p3 (starEach [] X.env)).any (·.1) = false := by rfl)
    (hst2 : starEach [Expr.Call (.Name "list" pl2) [.Name y pn] [] p3] X.env = (false, eval (Expr.Call (.Name "list" pl2) [.Name y pn] [] p3) X.env) :: starEach [] X.env := by rfl) (hpl2 : (backTo p2 (starEach [] X.env)).any (·.1) = false := by rfl) :
    PS X (.Return (some (.Call (.Name "sorted" pl) [.Call (.Name "list" pl2) [.Name y pn] [] p3] [] p2)) pos) (LDd c i ddRetL) :=
  (ps_ret (pe_callB (cr_sortedW hr.units) hgl hm (by first | exact PySem.boot_sorted | exact PyProof.Rows.boot_sorted | rfl) (pa_cons (pe_callTy (cr_listB hc) hgl2 hm2 (by rfl) (pa_cons (pe_var hN hv hd hcd) pa_nil hst) (he := hst) (hpl := hpl)) pa_nil hst2) (he := hst2) (hpl := hpl2))).weak fun D σ H ⟨p, L, s, DD, rp, dc, ⟨hne, hz, hR⟩, f⟩ => by
    rw [List.length_map] at hz hne
    have pf := rp.frz
    refine ⟨_, dc.at_, p, L, rfl, dc.obj, hz, fun qa hqa => ?_⟩
    have n1 := pf.new (o := .lst (L.map fun x => V.ref x.1)) hqa
    have k1 : ∀ x ∈ L, SqT c.K (c.hid c.X0 (upd H qa (.lst (L.map fun x => V.ref x.1)))) x.1 (x.2.map V.int) := fun x hx => n1.2.sub.st (rp.sub0.st (dc.keys x hx))
    refine ⟨qa, L, rfl, SqL.of upd_same, fun x hx => hK ▸ (wo_sub _ _ : Sub _ _).st (k1 x hx), hne.imp id fun h x hx => h _ (List.mem_map.mpr ⟨x, hx, rfl⟩), hz, fun q hq => ?_⟩
    have n2 := n1.1.new (o := .lst ((L.mergeSort leP).map fun z => V.ref z.1)) hq
    have es : (L.map (·.2)).mergeSort leI = (L.mergeSort leP).map (·.2) := (PySem.W.sort_maps (r := leP) (s := leI) (l := L) (fun z : Addr × List Int => z.2) (fun a _ b _ => rfl)).symm
    rw [es, List.map_map] at hR
    exact f.rt _ s.k _ _ n2.1.fin (.lst (n1.1.at_new (o := .lst ((L.mergeSort leP).map fun z => V.ref z.1)) hq) (RlA.ofTups fun z hz => n2.2.sub.st (k1 z (List.mem_mergeSort.mp hz)))) hR
end
end DL
set_option maxHeartbeats 1000000
namespace DL
open PySem L2
open PySem.W (Frag)
abbrev dDctP (i j : Nat) (t te : DE) (body : DdS) : DS := fun DD s => i < s.sl.length ∧ ∀ p, p ∉ s.X → t (s.own p s.k) fun d k => ∃ r, d = tuI r ∧ te (s.own p k) fun e k2 =>
  body { nx := fun s' _ => DD.nx s', rt := DD.rt, bk := fun s' _ => DD.bk s', ct := fun s' _ => DD.ct s' } (((s.own p k2).put i .no).put j (.dat e)) [r]
section
variable {X : Cx} {c : C}
theorem psd_dctP {l : Nat} (hr : Room l X.A) (hK : c.K = X.K) (hc : X.calm = true) (i j : Nat) {x y : PySem.Str} {px py pt p2 p3 p4 pt2 : Pos} {kt k2 jc : Nat} {k e : Expr} {t te : DE} {rest : List Stmt} {body : DdS} (hNd : X.N.Nodup) (hk : PE X k (LE c t)) (he : PE X e (LE c te)) (hrest : PSs X rest (LDd c i body)) (hij : i ≠ j := by decide)
    (hi : X.N[i]? = some x := by rfl) (hj : X.N[j]? = some y := by rfl) (hx : X.env.scope.names.lookup x = some .local := by rfl) (hy : X.env.scope.names.lookup y = some .local := by rfl)
    (hst : starEach [Expr.Dict [some k] [.Constant (.bool true) jc p4] p2, e] X.env = (false, eval (Expr.Dict [some k] [.Constant (.bool true) jc p4] p2) X.env) :: starEach [e] X.env := by rfl) (hst2 : starEach [e] X.env = (false, eval e X.env) :: starEach [] X.env := by rfl)
    (hw : swappedStores [.Tuple [.Name x px, .Name y py] kt pt] (.Tuple [.Dict [some k] [.Constant (.bool true) jc p4] p2, e] k2 pt2) X.env = pure (some [x, y]) := by rfl)
    (hs : swapsWithSole [.Tuple [.Name x px, .Name y py] kt pt] (.Tuple [.Dict [some k] [.Constant (.bool true) jc p4] p2, e] k2 pt2) p3.line X.env = pure false := by rfl) :
    PSs X (.Assign [.Tuple [.Name x px, .Name y py] kt pt] (.Tuple [.Dict [some k] [.Constant (.bool true) jc p4] p2, e] k2 pt2) p3 :: rest) (LS c (dDctP i j t te body)) :=
  (pss_cons (ps_par hc hNd hi hj hij hx hy (pa_cons (pe_disR (hu_of hr) hk) (pa_cons he pa_nil hst2) hst) hw hs) hrest).weak fun D σ H ⟨s, DD, rp, ⟨hil, q⟩, f⟩ => by
    intro p hp
    obtain ⟨n1, n2, n3, n4⟩ := rp.nofree hp
    have h := rp.hide (o := .ext (DbE p [])) hp
    refine ⟨s.own p s.k, _, h.1, q p n1, fun d k1 ⟨r, hd, hR⟩ v H2 r2 a2 e2 => ?_⟩
    subst hd
    obtain ⟨qa, vs, rfl, h1, ra⟩ := e2.tupE
    obtain rfl := ra.ints_v
    have ob : H2 p = some (.ext (DbE p [])) := by rw [a2.own p List.mem_cons_self]; exact upd_same
    refine ⟨qa, r, rfl, ob, hK ▸ (wo_sub _ _ : Sub _ _).st h1, ?_⟩
    have no : ∀ (j : Nat) ds, s.sl[j]? ≠ some (.own p ds) := fun j ds => rp.noslot n1 j ds
    have m := Rep.mutX (s := (s.own p s.k).at k1) r2 (o := .ext (DbE p [(qa, r)])) List.mem_cons_self n3 no (dbe_tb ob)
    refine ⟨s.own p k1, _, m.1, hR, fun d2 k2 hR2 v H3 r3 a3 e3 => ⟨_, _, rfl, ?_⟩⟩
    have m2 := r3.put (i := i) (v := V.ref p) (x := .no) trivial (fun _ _ z => nomatch z)
    have m3 := m2.putD (i := j) (v := v) (d := d2) e3
    have hl : i < σ.length := by rw [← rp.len]; exact hil
    have dc : DcAt c i p [(qa, r)] ((s.own p k2).put i .no) (σ.set i (some (V.ref p))) H3 := ⟨by show (s.sl.set i .no)[i]? = _; rw [List.getElem?_set_self hil], by rw [List.getElem?_set_self hl], List.mem_cons_self, n3, by rw [a3.own p List.mem_cons_self]; exact upd_same, fun y hy => by
      rw [List.mem_singleton.mp hy]
      exact a3.sub.st (m.2.st h1)⟩
    have ad : Adv' c s.X H (p :: s.X) H3 := ((h.2.trans a2.sub).trans m.2).trans a3.sub
    exact ⟨p, [(qa, r)], _, _, m3, dc.put (fun z => hij z.symm), hR2, ⟨fun s' σ' H' L' r' b z q' => f.nx s' σ' H' r' (ad.trans b) q', fun s' σ' H' L' r' b z q' => f.bk s' σ' H' r' (ad.trans b) q', fun s' σ' H' L' r' b z q' => f.ct s' σ' H' r' (ad.trans b) q', f.rt⟩⟩
end
end DL
set_option maxHeartbeats 1000000
set_option maxHeartbeats 1000000
namespace BW
open PySem L2 DL
def kp (T : Mat) (y : List Int) : Nat → List Int → List Int → List Int × List Int
  | 0, r, q => (r, q)
  | n + 1, r, q => if r.getD (ix (y.getD n 0)) 0 < 0 then kp T y n (press T r (ix (y.getD n 0))) ((n : Int) :: q) else kp T y n r q
abbrev kpt (T : Mat) (w v : List Int) : List Int × List Int := kp T (lw T v) (lw T v).length (row T w) []
end BW
namespace DL
open PySem L2
end DL
set_option maxHeartbeats 1000000
namespace BW
open PySem L2 DL
open PySem.W (dataLe)
abbrev tIs (L : List (List Int)) : D := .lst (L.map tI)
theorem unL_okE (L : List (List Int)) : (tIs L).okE = true := (okE_mat (f := tI) (fun r => plain_ints r) (fun r => by show PyData.canLayAll0 (pyA (r.map D.int)) = true; rw [py_ints, lay_ints]) (fun r => by show PyData.depthAll (pyA (r.map D.int)) + 1 = 1; rw [py_ints, depth_ints]) L).1
end BW
set_option maxHeartbeats 1000000
namespace BW
open PySem L2 DL
abbrev ll (T : Mat) (w : List Int) : Nat := (wd T 60 (row T w)).1.length
abbrev T3x : Mat := [[1, 3], [3, 1]]
theorem kp1 : decide ((kpt T3x [1] [2, 1]).1 = one T3x) = true := by decide +kernel
theorem kp2 : decide ((kpt T3x [1, 2] [2, 1]).1 = one T3x) = false := by decide +kernel
end BW
set_option maxHeartbeats 1000000
namespace BW
open PySem L2 DL
theorem sum_bd {B : Int} : ∀ {l : List Int}, (∀ x ∈ l, 0 ≤ x ∧ x ≤ B) → 0 ≤ l.sum ∧ l.sum ≤ B * l.length
  | [], _ => ⟨by decide, by simp⟩
  | a :: l, h => by
    have ih := sum_bd (l := l) fun x hx => h x (List.mem_cons_of_mem _ hx)
    have ha := h a List.mem_cons_self
    rw [List.sum_cons, List.length_cons]
    have e : B * ((l.length + 1 : Nat) : Int) = B * (l.length : Int) + B := by
      rw [Int.natCast_add, Int.mul_add]; simp
    rw [e]
    omega
end BW
set_option maxHeartbeats 1000000
set_option maxHeartbeats 1000000
namespace DL
open PySem PySem.Spec PyProof.Rows L2
open PySem.W (Frag)
section
variable {X : Cx} {c : C} {p pos apos : Pos} {e o : Expr} {t u : DE}
theorem Yl.str {s0 : S} {Hs : Hp} {x : PySem.Str} : Yl c s0 Hs (Its x) (x.cps.toList.map fun c => .str ⟨#[c]⟩) := fun i s σ H rp ad => by
  refine ⟨fun hl => by show x.cps.size ≤ i; rw [List.length_map, Array.length_toList] at hl; exact hl, fun d hd => ?_⟩
  rw [List.getElem?_map] at hd
  obtain ⟨z, hz, rfl⟩ := Option.map_eq_some_iff.mp hd
  rw [Array.getElem?_toList] at hz
  refine ⟨(Array.getElem?_eq_some_iff.mp hz).1, fun v H' ⟨e1, c1, e2, e3⟩ => ?_⟩
  subst e1 e3
  rw [hz] at e2
  cases e2
  exact ⟨rp, AdvE.refl, .str _⟩
end
end DL
set_option maxHeartbeats 1000000
set_option maxHeartbeats 1000000
namespace BW
open PySem L2 DL
abbrev t_ta0 : DdS := (ddSet 7 (dCall sp__law_moved (dCons (dVar 0) (dCons (dVar 5) (dCons (dTup (dCons (dC (.str "turn")) (dCons (dVar 6) dNil))) dNil)))))
abbrev t_ta1 : DdS := (ddIf (ddAnd (ddT (dTB (dOp (oNot oIs) (dVar 7) (dC .non)))) (ddNin (dVar 7))) (ddSeq (ddPut (dVar 7))
  (ddApp 4 (dVar 7))) ddNext)
abbrev t_ta2 : DdS := (ddFor 2 (iR1 (dOp oSub (dLenN 5) (dC (.int 1)))) (dgN 6) (ddSeq t_ta0 t_ta1))
abbrev t__law_turned_all : DS := (dDctP 2 3 (dVar 1) (dFr (dLs (dCons (dVar 1) dNil)))
  (ddSeq (ddWhile (dTB (dOp oNe (dVar 3) (dFr (dLs dNil)))) (ddSeq (ddSetO 4 (dLs dNil))
  (ddSeq (ddFor 2 (iLst (dVar 3)) (dgN 5) t_ta2)
  (ddFz 3 4))))
  ddRetL))
def sp__law_turned_all : DSp := fun ds k R => ∃ T y, ds = [lM T, tI y] ∧ Tab T ∧ Wd T.length y ∧ Sh T y ∧ y.length ≤ 60 ∧ (spS T (row T y.reverse)).length ≤ 900000 ∧ R (tIs (spS T (row T y.reverse))) k
abbrev slTa (T : Mat) (y : List Int) (x3 x4 x5 x6 x7 : Sl) : List Sl := [.dat (lM T), .dat (tI y), .no, x3, x4, x5, x6, x7]
section
variable {T : Mat} {y u : List Int} {p : Addr} {X : List Addr} {k : Nat} {x3 x5 x6 x7 : Sl} {DD : DdE} {ks L : List (List Int)}
structure Kn18 (T : Mat) (y : List Int) (ks0 L ks : List (List Int)) : Prop where
  eq : ks = ks0 ++ L
  nd : ks.Nodup
  sp : ∀ u ∈ ks, u ∈ spS T (row T y.reverse)
theorem Kn18.few {u' : List (List Int)} (h : Kn18 T y L ks u') (hn : (spS T (row T y.reverse)).length ≤ 900000) : u'.length ≤ 900000 ∧ ks.length ≤ 900000 := by
  have h1 := nd_sub_len h.nd h.sp
  have h2 := congrArg List.length h.eq
  rw [List.length_append] at h2
  omega
theorem r_ta01 {ks0 : List (List Int)} {j : Nat} (ht : Tab T) (hy : Wd T.length y) (ly : y.length ≤ 60) (hn : (spS T (row T y.reverse)).length ≤ 900000) (kn : Kn18 T y ks0 L ks) (hu : u ∈ spS T (row T y.reverse)) (lu : u.length ≤ 60) (wu : Wd T.length u)
    (fin : ∀ x7 L' ks', Kn18 T y ks0 L' ks' → (∀ v ∈ ks, v ∈ ks') → (∀ v, mv T u (.turn j) = some v → v ∈ ks') → DD.nx ⟨X, slTa T y x3 (.own p (L'.map tI)) (.dat (tI u)) (.dat (.int j)) x7, k⟩ ks') :
    (ddSeq t_ta0 t_ta1) DD ⟨X, slTa T y x3 (.own p (L.map tI)) (.dat (tI u)) (.dat (.int j)) x7, k⟩ ks := by
  refine ⟨_, rfl, _, rfl, _, rfl, by show 2 ≤ lim; decide, T, u, .turn j, rfl, ht, wu, by omega, ?_⟩
  cases e : mv T u (.turn j) with
  | none => exact ⟨_, rfl, _, rfl, fin _ L ks kn (fun v h => h) fun v z => by rw [e] at z; cases z⟩
  | some v =>
    have hv := turn_spS ht hy ly hu e
    have fw := kn.few hn
    refine ⟨_, rfl, _, rfl, ?_⟩
    refine ⟨_, rfl, v, rfl, ?_⟩
    by_cases c : v ∈ ks
    · rw [decide_eq_true c]
      exact fin _ L ks kn (fun v h => h) fun w z => by rw [e] at z; cases z; exact c
    · rw [decide_eq_false c]
      refine ⟨_, rfl, v, rfl, by omega, ?_⟩
      rw [if_neg c]
      refine ⟨p, L.map tI, rfl, _, rfl, by rw [List.length_map]; exact Nat.lt_of_lt_of_le (by omega : L.length < 1000000) (by decide), ?_⟩
      have f := fin (.dat (tI v)) (L ++ [v]) (ks ++ [v]) ⟨by rw [kn.eq, List.append_assoc], List.nodup_append.mpr ⟨kn.nd, List.pairwise_singleton _ _, fun b hb d hd ee => c (by rw [← List.mem_singleton.mp hd, ← ee]; exact hb)⟩, fun w hw => by
        rcases List.mem_append.mp hw with h | h
        · exact kn.sp w h
        · rw [List.mem_singleton.mp h]; exact hv⟩ (fun w h => List.mem_append_left _ h) fun w z => by rw [e] at z; cases z; exact List.mem_append_right _ (List.mem_singleton.mpr rfl)
      rw [List.map_append] at f
      exact f
theorem r_ta2 {ks0 : List (List Int)} (ht : Tab T) (hy : Wd T.length y) (ly : y.length ≤ 60) (hn : (spS T (row T y.reverse)).length ≤ 900000) (kn : Kn18 T y ks0 L ks) (hu : u ∈ spS T (row T y.reverse)) (lu : u.length ≤ 60) (wu : Wd T.length u)
    (fin : ∀ x6 x7 L' ks', Kn18 T y ks0 L' ks' → (∀ v ∈ ks, v ∈ ks') → CloT T u ks' → DD.nx ⟨X, slTa T y x3 (.own p (L'.map tI)) (.dat (tI u)) x6 x7, k⟩ ks') :
    t_ta2 DD ⟨X, slTa T y x3 (.own p (L.map tI)) (.dat (tI u)) x6 x7, k⟩ ks := by
  have lm : (u.map D.int).length = u.length := List.length_map ..
  refine ⟨_, rfl, _, rfl, by rw [lm]; omega, by rw [lm]; omega, fun n s' ks' => ∃ x6 x7 L', s' = ⟨X, slTa T y x3 (.own p (L'.map tI)) (.dat (tI u)) x6 x7, k⟩ ∧ Kn18 T y ks0 L' ks' ∧ (∀ v ∈ ks, v ∈ ks') ∧ ∀ j, j < n → ∀ v, mv T u (.turn j) = some v → v ∈ ks', ⟨x6, x7, L, rfl, kn, fun v h => h, fun j hj => absurd hj (Nat.not_lt_zero _)⟩, ?_, ?_⟩
  · rintro n d s' ks' hd ⟨y6, y7, L', rfl, kn', sub, cl⟩
    obtain ⟨hi, rfl⟩ := rngD_at hd
    refine ⟨rfl, ?_⟩
    have g := r_ta01 (DD := { nx := fun s2 k2 => ∃ x6 x7 L', s2 = ⟨X, slTa T y x3 (.own p (L'.map tI)) (.dat (tI u)) x6 x7, k⟩ ∧ Kn18 T y ks0 L' k2 ∧ (∀ v ∈ ks, v ∈ k2) ∧ ∀ j, j < n + 1 → ∀ v, mv T u (.turn j) = some v → v ∈ k2, rt := DD.rt, ct := fun s2 k2 => ∃ x6 x7 L', s2 = ⟨X, slTa T y x3 (.own p (L'.map tI)) (.dat (tI u)) x6 x7, k⟩ ∧ Kn18 T y ks0 L' k2 ∧ (∀ v ∈ ks, v ∈ k2) ∧ ∀ j, j < n + 1 → ∀ v, mv T u (.turn j) = some v → v ∈ k2, bk := DD.nx }) (X := X) (p := p) (k := k) (x3 := x3) (x7 := y7) (j := n) ht hy ly hn kn' hu lu wu (fun x7 L2 k2 kn2 s2 c2 => ⟨_, x7, L2, rfl, kn2, fun v h => s2 v (sub v h), fun j hj v hv => by
      rcases Nat.lt_or_ge j n with h | h
      · exact s2 v (cl j h v hv)
      · have : j = n := by omega
        rw [this] at hv
        exact c2 v hv⟩)
    rw [show (0 : Int) + (n : Int) = (n : Int) by omega]
    exact g
  · rintro s' ks' ⟨y6, y7, L', rfl, kn', sub, cl⟩
    refine fin y6 y7 L' ks' kn' sub fun j v hv => cl j ?_ v hv
    have := turn_k hv
    rw [rngD_len, lm]
    omega
end
theorem CloT.mono {T : Mat} {u : List Int} {K K' : List (List Int)} (h : CloT T u K) (s : ∀ v ∈ K, v ∈ K') : CloT T u K' := fun k v e => s v (h k v e)
theorem okE_ta (L : List (List Int)) : (tIs L).okE = true := unL_okE L
theorem eqv_nilT (L : List (List Int)) : PyData.eqv (tIs L).py (D.lst []).py = decide (L = []) := by
  cases L with
  | nil => decide +kernel
  | cons a L => rfl
theorem spS_len {T : Mat} (ht : Tab T) {y u : List Int} (hy : Wd T.length y) (ly : y.length ≤ 60) (sy : Sh T y) (hu : u ∈ spS T (row T y.reverse)) : u.length = y.length := by
  obtain ⟨wu, er, su⟩ := (mem_spS ht hy ly).mp hu
  exact (su.cong wu hy er).uniq sy
theorem r__law_turned_all (X : List Addr) (ds : List D) (k : Nat) (R : D → Nat → Prop) (h : sp__law_turned_all ds k R) : t__law_turned_all (En R) (St0 false 8 ds X k) := by
  obtain ⟨T, y, rfl, ht, hy, sy, ly, hn, h⟩ := h
  have yU : y ∈ spS T (row T y.reverse) := (mem_spS ht hy ly).mpr ⟨hy, rfl, sy⟩
  have lenU : ∀ u ∈ spS T (row T y.reverse), u.length = y.length := fun u hu => spS_len ht hy ly sy hu
  refine ⟨by show 2 < 8; decide, fun pd hpd => ⟨_, rfl, y, rfl, _, rfl, by show 1 ≤ lim; decide, ?_⟩⟩
  refine ⟨fun m s' ks' => ∃ (X' : List Addr) (Ly : List (List Int)) (x4 x5 x6 x7 : Sl), s' = ⟨X', slTa T y (.dat (tIs Ly)) x4 x5 x6 x7, k⟩ ∧ ks'.Nodup ∧ (∀ u ∈ ks', u ∈ spS T (row T y.reverse)) ∧ y ∈ ks' ∧ (∀ v ∈ Ly, v ∈ ks') ∧ (∀ v ∈ ks', v ∈ Ly ∨ CloT T v ks') ∧ m = 2 * ((spS T (row T y.reverse)).length - ks'.length) + (if Ly = [] then 0 else 1),
    ⟨_, pd :: X, [y], .no, .no, .no, .no, rfl, List.pairwise_singleton _ _, fun u hu => by rw [List.mem_singleton.mp hu]; exact yU, List.mem_singleton.mpr rfl, fun v hv => hv, fun v hv => .inl hv, rfl⟩, ?_⟩
  rintro m s' ks0 ⟨X', Ly, x4, x5, x6, x7, rfl, nd, sp, yk, sub, cl, hm⟩
  have few0 := nd_sub_len nd sp
  refine ⟨_, rfl, by show 0 ≤ lim; decide, okE_ta _, rfl, _, rfl, ?_⟩
  rw [eqv_nilT]
  by_cases c : Ly = []
  · rw [decide_eq_true c]
    refine iteF ⟨?_, by omega, ?_⟩
    · by_cases e : y = []
      · refine .inl ?_
        have := nd_sub_len (z := [[]]) nd fun u hu => by
          have l := lenU u (sp u hu)
          rw [e] at l
          exact List.mem_singleton.mpr (List.length_eq_zero_iff.mp l)
        exact this
      · refine .inr fun r hr z => ?_
        have l := lenU r (sp r hr)
        rw [z] at l
        exact e (List.length_eq_zero_iff.mp l.symm)
    · rw [reach_all ht hy ly nd sp yk fun u hu => (cl u hu).resolve_left (by rw [c]; simp)]
      exact h
  · rw [decide_eq_false c]
    refine iteT ?_
    refine ⟨by show 0 ≤ lim; decide, fun q hq => ?_⟩
    refine ⟨_, rfl, _, rfl, fun n s' ks' => ∃ x5 x6 x7 L', s' = ⟨q :: X', slTa T y (.dat (tIs Ly)) (.own q (L'.map tI)) x5 x6 x7, k⟩ ∧ Kn18 T y ks0 L' ks' ∧ (∀ v ∈ ks0, v ∈ ks') ∧ ∀ j, j < n → ∀ u, Ly[j]? = some u → CloT T u ks', ⟨x5, x6, x7, [], rfl, ⟨by rw [List.append_nil], nd, sp⟩, fun v h => h, fun j hj => absurd hj (Nat.not_lt_zero _)⟩, ?_, ?_⟩
    · rintro n e s' ks' he ⟨y5, y6, y7, L', rfl, kn, s0, cl0⟩
      rw [List.getElem?_map] at he
      obtain ⟨u, hu, rfl⟩ := Option.map_eq_some_iff.mp he
      have um := sub u (List.mem_of_getElem? hu)
      obtain ⟨wu, _, _⟩ := (mem_spS ht hy ly).mp (sp u um)
      have lu := lenU u (sp u um)
      refine ⟨rfl, r_ta2 ht hy ly hn kn (sp u um) (by omega) wu fun z6 z7 L2 k2 kn2 s2 c2 => ⟨_, z6, z7, L2, rfl, kn2, fun v h => s2 v (s0 v h), fun j hj v hv => ?_⟩⟩
      rcases Nat.lt_or_ge j n with g | g
      · exact (cl0 j g v hv).mono s2
      · have : j = n := by omega
        rw [this, hu] at hv
        cases hv
        exact c2
    · rintro s' ks' ⟨y5, y6, y7, L', rfl, kn, s0, cl0⟩
      rw [List.length_map] at cl0
      have few := nd_sub_len kn.nd kn.sp
      have ll := congrArg List.length kn.eq
      rw [List.length_append] at ll
      refine ⟨q, L'.map tI, rfl, fun X2 => ⟨_, ?_, X2, L', .dat (tIs L'), y5, y6, y7, rfl, kn.nd, kn.sp, s0 y yk, fun v hv => by rw [kn.eq]; exact List.mem_append_right _ hv, fun v hv => ?_, rfl⟩⟩
      · rw [hm, if_neg c]
        by_cases e : L' = []
        · rw [if_pos e]
          have : L'.length = 0 := by rw [e]; rfl
          omega
        · rw [if_neg e]
          have := List.length_pos_iff.mpr e
          omega
      · rw [kn.eq] at hv
        rcases List.mem_append.mp hv with g | g
        · rcases cl v g with z | z
          · obtain ⟨j, hj⟩ := List.getElem?_of_mem z
            exact .inr (cl0 j (List.getElem?_eq_some_iff.mp hj).1 v hj)
          · exact .inr (z.mono s0)
        · exact .inl g
end BW
set_option maxHeartbeats 1000000
set_option maxHeartbeats 1000000
namespace BW
open PySem L2 DL
theorem flat_at {α β : Type} {f : α → List β} : ∀ {l : List α} {i : Nat} {x : β}, (l.flatMap f)[i]? = some x → ∃ (j : Nat) (a : α) (m : Nat), l[j]? = some a ∧ i = ((l.take j).map fun b => (f b).length).sum + m ∧ (f a)[m]? = some x
  | [], i, x, h => by cases h
  | a :: l, i, x, h => by
    rw [List.flatMap_cons] at h
    by_cases c : i < (f a).length
    · rw [List.getElem?_append_left c] at h
      exact ⟨0, a, i, rfl, by simp, h⟩
    · rw [List.getElem?_append_right (by omega)] at h
      obtain ⟨j, b, m, h1, h2, h3⟩ := flat_at h
      refine ⟨j + 1, b, m, h1, ?_, h3⟩
      rw [List.take_succ_cons, List.map_cons, List.sum_cons]
      omega
abbrev spA (T : Mat) (r : List Int) (a : Int) : List (List Int) := (spS T (press T r (ix a))).map (a :: ·)
theorem spA_len (T : Mat) (r : List Int) (a : Int) : ((spA T r a).length : Int) = cn T (press T r (ix a)) := by rw [List.length_map, cn_len]
theorem spS_fall {T : Mat} (ht : Tab T) {x : List Int} (hx : Wd T.length x) (hl : x.length ≤ 60) (h : fall (row T x) ≠ []) : spS T (row T x) = (fall (row T x)).flatMap (spA T (row T x)) := by rw [spS_eq ht hx hl, if_neg h]
theorem spS_end {T : Mat} (ht : Tab T) {x : List Int} (hx : Wd T.length x) (hl : x.length ≤ 60) (h : fall (row T x) = []) : spS T (row T x) = [[]] := by rw [spS_eq ht hx hl, if_pos h]
theorem fall_take {r : List Int} {j : Nat} {a : Int} (h : (fall r)[j]? = some a) : ((fall r).filter fun l => decide (l < a)) = (fall r).take j := by
  have asc := fall_asc r
  obtain ⟨hj, e⟩ := List.getElem?_eq_some_iff.mp h
  have e2 : fall r = (fall r).take j ++ (fall r).drop j := (List.take_append_drop j _).symm
  conv => lhs; rw [e2]
  rw [List.filter_append]
  have p := List.pairwise_iff_getElem.mp asc
  have h1 : ((fall r).take j).filter (fun l => decide (l < a)) = (fall r).take j := List.filter_eq_self.mpr fun x hx => by
    obtain ⟨i, hi, ex⟩ := List.getElem_of_mem hx
    rw [List.length_take] at hi
    rw [List.getElem_take] at ex
    refine decide_eq_true ?_
    rw [← ex, ← e]
    exact p i j (by omega) hj (by omega)
  have h2 : ((fall r).drop j).filter (fun l => decide (l < a)) = [] := List.filter_eq_nil_iff.mpr fun x hx => by
    obtain ⟨i, hi, ex⟩ := List.getElem_of_mem hx
    rw [List.length_drop] at hi
    rw [List.getElem_drop] at ex
    intro z
    have z := of_decide_eq_true z
    rw [← ex, ← e] at z
    cases i with
    | zero => exact absurd z (by simp)
    | succ i =>
      have := p j (j + (i + 1)) hj (by omega) (by omega)
      omega
  rw [h1, h2, List.append_nil]
theorem wn_idx {T : Mat} (ht : Tab T) {u : List Int} (hu : Wd T.length u) (hlu : u.length ≤ 16) : ∀ (n p : Nat) {i : Nat}, p + n = u.length → (spS T (rwP T u p))[i]? = some (u.drop p) → wnP T u u.length = wnP T u p + (i : Int)
  | 0, p, i, e, h => by
    have : p = u.length := by omega
    subst this
    have wr : Wd T.length ((u.drop u.length).reverse) := wd_sub (rwP_sub u _) (wd_rev hu)
    have e0 : rwP T u u.length = row T [] := by show row T ((u.drop u.length).reverse) = _; rw [List.drop_length]; rfl
    rw [e0, spS_end ht (x := []) (fun a ha => absurd ha (by simp)) (by simp) (fall_one1 T)] at h
    have : i = 0 := by
      obtain ⟨h1, _⟩ := List.getElem?_eq_some_iff.mp h
      simpa using h1
    subst this
    simp
  | n + 1, p, i, e, h => by
    have hp : p < u.length := by omega
    have wr : Wd T.length ((u.drop p).reverse) := wd_sub (rwP_sub u p) (wd_rev hu)
    have lr : ((u.drop p).reverse).length ≤ 16 := by rw [List.length_reverse, List.length_drop]; omega
    have eu := List.drop_eq_getElem_cons hp
    have ga : u[p]? = some u[p] := List.getElem?_eq_getElem hp
    have gd : u.getD p 0 = u[p] := by rw [List.getD_eq_getElem?_getD, ga]; rfl
    by_cases f0 : fall (rwP T u p) = []
    · rw [spS_end ht wr (by omega) f0] at h
      exfalso
      rw [eu] at h
      have := List.mem_singleton.mp (List.mem_of_getElem? h)
      cases this
    · rw [spS_fall ht wr (by omega) f0] at h
      obtain ⟨j, a, m, h1, h2, h3⟩ := flat_at h
      rw [List.getElem?_map] at h3
      obtain ⟨v, hv, ev⟩ := Option.map_eq_some_iff.mp h3
      rw [eu] at ev
      obtain ⟨ea, ev⟩ := List.cons.inj ev
      subst ev
      rw [ea] at h1 hv
      rw [rwP_next ht hu ga] at hv
      have ih := wn_idx ht hu hlu n (p + 1) (by omega) hv
      rw [ih]
      show wnP T u p + smP T u p + (m : Int) = wnP T u p + (i : Int)
      have es : smP T u p = (((fall (rwP T u p)).take j).map fun b => (spA T (rwP T u p) b).length).sum := by
        unfold smP
        rw [gd, fall_take h1, sum_cast]
        refine congrArg List.sum (List.map_congr_left fun b _ => ?_)
        rw [spA_len]
      rw [h2]
      show wnP T u p + smP T u p + (m : Int) = wnP T u p + (((((fall (rwP T u p)).take j).map fun b => (spA T (rwP T u p) b).length).sum + m : Nat) : Int)
      rw [es]
      omega
theorem wn_sp {T : Mat} (ht : Tab T) {w u : List Int} (hw : Wd T.length w) (hl : w.length ≤ 16) {i : Nat} (h : (spS T (row T w.reverse))[i]? = some u) : wnP T u u.length = i := by
  have s := spS_spl ht w.length (wd_rev hw) (by rw [List.length_reverse]; exact Nat.le_refl _) (by omega) u (List.mem_of_getElem? h)
  have e := spl_row ht hw s
  have lu : u.length ≤ 16 := by
    obtain ⟨k, hk, h2⟩ := LN.has (wd_rev hw)
    have := hk.uniq s.ln
    rw [List.length_reverse] at h2
    omega
  have er : rwP T u 0 = row T w.reverse := by
    show row T ((u.drop 0).reverse) = _
    rw [List.drop_zero]
    exact row_rev ht s.wd hw e
  have := wn_idx ht s.wd lu u.length 0 (by omega) (i := i) (by rw [er, List.drop_zero]; exact h)
  rw [this]
  show (0 : Int) + i = i
  omega
def sp_check_led : DSp := fun ds k R => spX_check_led ds k R fun _ _ => False
def sp_row_to_spell (BC : Addr) : DSp := fun ds k R => ∃ T d w, ds = [bnd BC T, d] ∧ Tab T ∧ isW d w ∧ w.length ≤ 16 ∧ Wd T.length w ∧ R (tI (row T w.reverse)) k
abbrev t_row_to_spell (BC : Addr) : DS := (dSeq (dSet 2 (dCall sp_as_word (dCons (dVar 1) (dCons (dLenO BC (sp_len_Bonds BC) (dVar 0)) dNil))))
  (dSeq (dDrop (dCall sp_check_led (dCons (dVar 2) dNil)))
  (dRet (dCall (sp_row_behind BC) (dCons (dVar 0) (dCons (dRev (dVar 2)) dNil))))))
theorem r_row_to_spell (BC : Addr) (X : List Addr) (ds : List D) (k : Nat) (R : D → Nat → Prop) (h : sp_row_to_spell BC ds k R) : t_row_to_spell BC (En R) (St0 false 3 ds X k) := by
  obtain ⟨T, d, w, rfl, ht, hw, hl, hwd, h⟩ := h
  have hT := ht.hi
  refine ⟨_, rfl, _, rfl, ⟨_, _, rfl⟩, T, rfl, hT, T.length, rfl, by omega, d, w, T.length, rfl, hw, by omega, hwd, ?_⟩
  refine ⟨_, rfl, tI w, w.map D.int, rfl, rfl, ?_⟩
  rw [List.length_map]
  refine .inr ⟨hl, fun X' => ?_⟩
  refine ⟨_, rfl, _, rfl, ?_⟩
  exact ⟨T, .tup ((w.map D.int).reverse), w.reverse, rfl, ht, .inr (by show D.tup ((w.map D.int).reverse) = tI w.reverse; rw [← List.map_reverse]), fun a ha => hwd a (List.mem_reverse.mp ha), h⟩
abbrev t_check_led : DS := (dIfS (dTB (dOp oGt (dLenN 0) (dC (.int (16))))) (fun _ _ => False) dNext)
theorem r_check_led (X : List Addr) (ds : List D) (k : Nat) (R : D → Nat → Prop) (h : sp_check_led ds k R) : t_check_led (En R) (St0 false 1 ds X k) := by
  obtain ⟨d, xs, rfl, hi, h⟩ := h
  rcases h with ⟨_, h⟩ | ⟨c, h⟩
  · exact h.elim
  cases d <;> first
    | (cases hi; done)
    | (cases hi; exact ⟨_, rfl, _, rfl, by rw [decide_eq_false (by omega)]; exact h⟩)
def sp_count_shortestP (BC : Addr) : DSp := fun ds k R => ∃ T d w, ds = [bnd BC T, d] ∧ Tab T ∧ isW d w ∧ w.length ≤ 16 ∧ Wd T.length w ∧ R (.int (cn T (row T w.reverse))) k
abbrev t_count_shortestP (BC : Addr) : DS := (dRet (dCallK0 (sp_counted BC) (dVar 0) (dCall (sp_row_to_spell BC) (dCons (dVar 0) (dCons (dVar 1) dNil)))))
theorem r_count_shortestP (BC : Addr) (X : List Addr) (ds : List D) (k : Nat) (R : D → Nat → Prop) (h : sp_count_shortestP BC ds k R) : t_count_shortestP BC (En R) (St0 false 2 ds X k) := by
  obtain ⟨T, d, w, rfl, ht, hw, hl, hwd, h⟩ := h
  intro X'
  have lr : w.reverse.length = w.length := List.length_reverse
  refine ⟨cn T, Zs T w.reverse, zs_len (by omega), _, rfl, _, rfl, _, rfl, T, d, w, rfl, ht, hw, hl, hwd, ?_⟩
  exact ⟨T, w.reverse, rfl, ht, rev_ok hwd, by omega, by omega, rfl, zs_cl ht (rev_ok hwd), zs_self _ _, h⟩
def sp_word_at (BC : Addr) : DSp := fun ds k R => ∃ (T : Mat) (d : D) (w : List Int) (i : Nat) (u : List Int), ds = [bnd BC T, d, .int i] ∧ Tab T ∧ isW d w ∧ w.length ≤ 16 ∧ Wd T.length w ∧ (spS T (row T w.reverse))[i]? = some u ∧ R (tI u) k
abbrev t_wa1 (BC : Addr) : DS := (dFor (iTp (dCall sp_fallen (dCons (dVar 3) dNil))) (dgN 7) (dSeq (dSet 8 (dCall (sp_pressed BC) (dCons (dVar 0) (dCons (dVar 3) (dCons (dVar 7) dNil)))))
  (dSeq (dSet 9 (dCallK 4 (sp_counted BC) (dVar 0) (dVar 8)))
  (dSeq (dIfS (dTB (dOp oLt (dVar 6) (dVar 9))) (fun DD s => DD.bk s) dNext)
  (dAugI oSub 6 (dVar 9))))))
abbrev t_word_at (BC : Addr) : DS := (dSeq (dSet 3 (dCall (sp_row_to_spell BC) (dCons (dVar 0) (dCons (dVar 1) dNil))))
  (dKnown 4 (dSeq (dIfS (dOr (dNot (dTru (dCall sp_is_whole (dCons (dVar 2) dNil)))) (dNot (dTB (dCh oLe oLt (dC (.int 0)) (dVar 2) (dCallK 4 (sp_counted BC) (dVar 0) (dVar 3)))))) (fun _ _ => False) dNext)
  (dSeq (dSet 5 (dTup dNil))
  (dSeq (dSet 6 (dVar 2))
  (dSeq (dWhile (dTru (dCall sp_fallen (dCons (dVar 3) dNil))) (dSeq (t_wa1 BC)
  (dSeq (dAugT 5 (dTup (dCons (dVar 7) dNil)))
  (dSet 3 (dVar 8)))))
  (dRet (dVar 5))))))))
abbrev slA (BC : Addr) (T : Mat) (d : D) (i : Nat) (r : List Int) (Z : List (List Int)) (pre : List Int) (n : Int) (x7 x8 x9 : Sl) : List Sl := [.dat (bnd BC T), .dat d, .dat (.int i), .dat (tI r), .kds (cn T) Z, .dat (tI pre), .dat (.int n), x7, x8, x9]
section
variable {BC : Addr} {T : Mat} {d : D} {i : Nat} {z pre v : List Int} {X : List Addr} {k n : Nat} {x7 x8 x9 : Sl} {DD : DEnds} {Z : List (List Int)}
theorem r_wa1 (ht : Tab T) (hz : Wd T.length z) (hl : z.length ≤ 16) (cz : ClZ T Z) (hZ : row T z ∈ Z) (f0 : fall (row T z) ≠ []) (hv : (spS T (row T z))[n]? = some v)
    (fin : ∀ (a : Int) (m : Nat) (v' : List Int) (x9 : Sl), a ∈ fall (row T z) → v = a :: v' → (spS T (press T (row T z) (ix a)))[m]? = some v' → DD.nx ⟨X, slA BC T d i (row T z) Z pre m (.dat (.int a)) (.dat (tI (press T (row T z) (ix a)))) x9, k⟩) :
    t_wa1 BC DD ⟨X, slA BC T d i (row T z) Z pre n x7 x8 x9, k⟩ := by
  have lr := row_length T z
  have hT := ht.hi
  rw [spS_fall ht hz (by omega) f0] at hv
  refine ⟨_, rfl, row T z, rfl, by omega, _, rfl, fun j s' => ∃ (m : Nat) (x7 x8 x9 : Sl), s' = ⟨X, slA BC T d i (row T z) Z pre m x7 x8 x9, k⟩ ∧ (((fall (row T z)).drop j).flatMap (spA T (row T z)))[m]? = some v, ⟨n, x7, x8, x9, rfl, hv⟩, ?_, ?_⟩
  · rintro j e s' he ⟨m, y7, y8, y9, rfl, hm⟩
    rw [List.getElem?_map] at he
    obtain ⟨a, ha, rfl⟩ := Option.map_eq_some_iff.mp he
    have am := List.mem_of_getElem? ha
    obtain ⟨z', h1, h2, h3, h4, h5⟩ := fall_dn ht hz am
    have jl := (List.getElem?_eq_some_iff.mp ha).1
    rw [List.drop_eq_getElem_cons jl, (List.getElem?_eq_some_iff.mp ha).2, List.flatMap_cons] at hm
    refine ⟨_, rfl, _, rfl, _, rfl, T, row T z, a, rfl, ht, lr, h4, h5, ?_⟩
    refine ⟨cn T, Z, rfl, _, rfl, _, rfl, T, z', by rw [h3], ht, wd_sub h1 hz, by omega, by omega, rfl, cz, by rw [← h3]; exact cz z hz hZ a am, ?_⟩
    have lc : ((spA T (row T z) a).length : Int) = cn T (row T z') := by rw [spA_len, h3]
    refine ⟨_, rfl, _, rfl, _, rfl, ?_⟩
    by_cases c : m < (spA T (row T z) a).length
    · rw [decide_eq_true (by omega)]
      refine iteT ?_
      rw [List.getElem?_append_left c, List.getElem?_map] at hm
      obtain ⟨v', hv', ev⟩ := Option.map_eq_some_iff.mp hm
      exact fin a m v' _ am ev.symm hv'
    · rw [decide_eq_false (by omega)]
      refine iteF ?_
      rw [List.getElem?_append_right (by omega)] at hm
      refine ⟨_, rfl, _, rfl, m - (spA T (row T z) a).length, .dat (.int a), .dat (tI (press T (row T z) (ix a))), .dat (.int (cn T (row T z'))), ?_, hm⟩
      have e : (m : Int) - cn T (row T z') = ((m - (spA T (row T z) a).length : Nat) : Int) := by omega
      show (⟨X, [.dat (bnd BC T), .dat d, .dat (.int i), .dat (tI (row T z)), .kds (cn T) Z, .dat (tI pre), .dat (.int ((m : Int) - cn T (row T z'))), .dat (.int a), .dat (tI (press T (row T z) (ix a))), .dat (.int (cn T (row T z')))], k⟩ : S) = _
      rw [e]
  · rintro s' ⟨m, y7, y8, y9, rfl, hm⟩
    rw [List.length_map, List.drop_length] at hm
    cases hm
end
theorem r_word_at (BC : Addr) (X : List Addr) (ds : List D) (k : Nat) (R : D → Nat → Prop) (h : sp_word_at BC ds k R) : t_word_at BC (En R) (St0 false 10 ds X k) := by
  obtain ⟨T, d, w, i, u, rfl, ht, hw, hl, hwd, hu, h⟩ := h
  have lr : w.reverse.length = w.length := List.length_reverse
  have hil := (List.getElem?_eq_some_iff.mp hu).1
  have cl := cn_len T (row T w.reverse)
  have hz := zs_cl ht (rev_ok hwd)
  have s := spS_spl ht w.length (wd_rev hwd) (by omega) (by omega) u (List.mem_of_getElem? hu)
  have lu : u.length ≤ 16 := by
    obtain ⟨k, hk, h2⟩ := LN.has (wd_rev hwd)
    have := hk.uniq s.ln
    omega
  refine ⟨_, rfl, _, rfl, T, d, w, rfl, ht, hw, hl, hwd, ?_⟩
  refine ⟨cn T, Zs T w.reverse, zs_len (by omega), by show 4 < 10; decide, ?_⟩
  refine ⟨_, rfl, .int i, rfl, rfl, _, rfl, ?_⟩
  refine iteF ⟨_, rfl, _, rfl, ?_⟩
  rw [decide_eq_true (by omega : (0 : Int) ≤ i)]
  refine iteT ⟨cn T, Zs T w.reverse, rfl, _, rfl, _, rfl, T, w.reverse, rfl, ht, rev_ok hwd, by omega, by omega, rfl, hz, zs_self _ _, ?_⟩
  refine ⟨_, rfl, ?_⟩
  rw [decide_eq_true (by omega : (i : Int) < cn T (row T w.reverse))]
  refine iteF ⟨by show 0 ≤ lim; decide, _, rfl, ?_⟩
  refine ⟨fun m s' => ∃ (z pre v : List Int) (n : Nat) (x7 x8 x9 : Sl), s' = ⟨X, slA BC T d i (row T z) (Zs T w.reverse) pre n x7 x8 x9, k⟩ ∧ m = z.length ∧ Wd T.length z ∧ z.length ≤ 16 ∧ row T z ∈ Zs T w.reverse ∧ (spS T (row T z))[n]? = some v ∧ pre ++ v = u, ⟨w.reverse.length, w.reverse, [], u, i, .no, .no, .no, rfl, rfl, rev_ok hwd, by omega, zs_self _ _, hu, rfl⟩, ?_⟩
  rintro m s' ⟨z, pre, v, n, x7, x8, x9, rfl, rfl, wz, lz, inZ, hv, ev⟩
  have lrz := row_length T z
  have hT := ht.hi
  refine ⟨_, rfl, row T z, rfl, by omega, _, rfl, ?_⟩
  by_cases f0 : fall (row T z) = []
  · rw [f0]
    refine iteF fun X' => ⟨_, rfl, ?_⟩
    rw [spS_end ht wz (by omega) f0] at hv
    have := List.mem_singleton.mp (List.mem_of_getElem? hv)
    subst this
    rw [List.append_nil] at ev
    subst ev
    exact h
  · have e : (((fall (row T z)).map D.int).isEmpty) = false := by
      cases q : fall (row T z) with
      | nil => exact absurd q f0
      | cons a l => rfl
    rw [e]
    refine iteT ?_
    refine r_wa1 ht wz lz hz inZ f0 hv fun a m v' y9 am ea hm => ?_
    obtain ⟨z', h1, h2, h3, h4, h5⟩ := fall_dn ht wz am
    have lp : pre.length + v.length ≤ 16 := by rw [← List.length_append, ev]; exact lu
    refine ⟨_, rfl, _, rfl, by show 1 ≤ lim; decide, ⟨by show (pre.map D.int).length + 1 ≤ lim; rw [List.length_map]; exact Nat.le_trans (by rw [ea, List.length_cons] at lp; show pre.length + 1 ≤ 16; omega) (by decide : 16 ≤ lim), ?_⟩⟩
    refine ⟨_, rfl, z'.length, by omega, z', pre ++ [a], v', m, .dat (.int a), .dat (tI (press T (row T z) (ix a))), y9, ?_, rfl, wd_sub h1 wz, by omega, by rw [← h3]; exact hz z wz inZ a am, by rw [← h3]; exact hm, by rw [← ev, ea, List.append_assoc]; rfl⟩
    show (⟨X, [.dat (bnd BC T), .dat d, .dat (.int i), .dat (tI (press T (row T z) (ix a))), .kds (cn T) (Zs T w.reverse), .dat (.tup (pre.map D.int ++ [D.int a])), .dat (.int m), .dat (.int a), .dat (tI (press T (row T z) (ix a))), y9], k⟩ : S) = _
    rw [h3]
    unfold slA
    rw [show D.tup (pre.map D.int ++ [D.int a]) = tI (pre ++ [a]) by unfold tI; rw [List.map_append]; rfl]
abbrev slD (BC : Addr) (T : Mat) (d : D) (w : List Int) (p : Nat) (Z : List (List Int)) (x4 x5 x6 x7 x8 : Sl) : List Sl := [.dat (bnd BC T), .dat d, .dat (tI (rwP T w p)), .kds (cn T) Z, x4, x5, x6, x7, x8]
section
variable {BC : Addr} {T : Mat} {d : D} {w : List Int} {p : Nat} {a n : Int} {X : List Addr} {k : Nat} {x4 x5 x6 x7 x8 : Sl} {DD : DEnds} {Z : List (List Int)}
theorem r_wn1d (ht : Tab T) (fin : ∀ x7, DD.nx ⟨X, slD BC T d w p Z x4 (.dat (.int a)) (.dat (.lst ((ahP T w p a).map tI))) x7 x8, k⟩) : t_wn1 BC DD ⟨X, slD BC T d w p Z x4 (.dat (.int a)) x6 x7 x8, k⟩ := by
  have hT := ht.hi
  have lr : (rwP T w p).length = T.length := row_length T ((w.drop p).reverse)
  have lf := fall_le (rwP T w p)
  have lm : ((fall (rwP T w p)).map D.int).length = (fall (rwP T w p)).length := List.length_map ..
  refine ⟨_, rfl, rwP T w p, rfl, by omega, _, rfl, by rw [lm]; exact Nat.le_trans (by omega : _ ≤ 6) (by decide), fun q hq => ⟨fun j acc k' => k' = k ∧ acc = ((((fall (rwP T w p)).take j).filter fun l => decide (l < a)).map fun l => press T (rwP T w p) (ix l)).map tI, ⟨rfl, rfl⟩, ?_, ?_⟩⟩
  · rintro j e acc k' he ⟨rfl, rfl⟩ _
    rw [List.getElem?_map] at he
    obtain ⟨l, hl, rfl⟩ := Option.map_eq_some_iff.mp he
    have hb := fall_bd (List.mem_of_getElem? hl)
    have nx : ∀ b, decide (l < a) = b → (((fall (rwP T w p)).take (j + 1)).filter fun l => decide (l < a)) = (((fall (rwP T w p)).take j).filter fun l => decide (l < a)) ++ if b = true then [l] else [] := fun b hb => by
      rw [List.take_succ, hl, List.filter_append]
      congr 1
      subst hb
      by_cases z : decide (l < a) = true
      · rw [if_pos z]; exact List.filter_cons_of_pos z
      · rw [if_neg z]; exact List.filter_cons_of_neg z
    refine ⟨_, rfl, _, rfl, _, rfl, ?_⟩
    cases c : decide (l < a) with
    | true =>
      refine iteT ⟨_, rfl, _, rfl, _, rfl, T, rwP T w p, l, rfl, ht, lr, hb.1, by omega, rfl, ?_⟩
      rw [nx true c, if_pos rfl, List.map_append, List.map_append]; rfl
    | false =>
      refine iteF ⟨rfl, ?_⟩
      rw [nx false c, if_neg (by decide), List.append_nil]
  · rintro acc k' ⟨rfl, rfl⟩ _
    rw [lm, List.take_length]
    exact fin _
theorem r_wn2d (ht : Tab T) (hw : Wd T.length w) (hl : w.length ≤ 16) (hz : ClZ T Z) (hr : rwP T w p ∈ Z) (fin : ∀ x8, DD.nx ⟨X, slD BC T d w p Z (.dat (.int (n + ((ahP T w p a).map (cn T)).sum))) (.dat (.int a)) (.dat (.lst ((ahP T w p a).map tI))) x7 x8, k⟩) : t_wn2 BC DD ⟨X, slD BC T d w p Z (.dat (.int n)) (.dat (.int a)) (.dat (.lst ((ahP T w p a).map tI))) x7 x8, k⟩ := by
  have hT := ht.hi
  have lr : (rwP T w p).length = T.length := row_length T ((w.drop p).reverse)
  have lf := fall_le (rwP T w p)
  have la : ((ahP T w p a).map tI).length ≤ 6 := by
    rw [List.length_map, List.length_map]
    have := List.length_filter_le (fun l => decide (l < a)) (fall (rwP T w p))
    omega
  have lm : ((ahP T w p a).map tI).length = (ahP T w p a).length := List.length_map ..
  have wr : Wd T.length ((w.drop p).reverse) := wd_sub (rwP_sub w p) (rev_ok hw)
  have ld : ((w.drop p).reverse).length ≤ 16 := by rw [List.length_reverse, List.length_drop]; omega
  refine ⟨_, rfl, _, rfl, _, rfl, Nat.le_trans la (by decide), fun q hq => ⟨fun j acc k' => k' = k ∧ acc = (((ahP T w p a).take j).map (cn T)).map D.int, ⟨rfl, rfl⟩, ?_, ?_⟩⟩
  · rintro j e acc k' he ⟨rfl, rfl⟩ _
    rw [List.getElem?_map] at he
    obtain ⟨r, hr2, rfl⟩ := Option.map_eq_some_iff.mp he
    obtain ⟨l, hl2, rfl⟩ := List.mem_map.mp (List.mem_of_getElem? hr2)
    have hl3 := (List.mem_filter.mp hl2).1
    obtain ⟨z, h1, h2, h3, _⟩ := fall_dn ht wr hl3
    refine iteT ⟨cn T, Z, rfl, _, rfl, _, rfl, T, z, by rw [← h3], ht, wd_sub h1 wr, by omega, by omega, rfl, hz, ?_, rfl, ?_⟩
    · rw [← h3]
      exact hz _ wr hr l hl3
    · rw [List.take_succ, hr2, List.map_append, List.map_append]
      show _ = _ ++ [D.int (cn T (press T (rwP T w p) (ix l)))]
      rw [h3]
  · rintro acc k' ⟨rfl, rfl⟩ _
    rw [lm, List.take_length]
    exact ⟨_, rfl, fin _⟩
end
def sp_word_numberP (BC : Addr) : DSp := fun ds k R => ∃ T d w, ds = [bnd BC T, d] ∧ Tab T ∧ isW d w ∧ w.length ≤ 16 ∧ Wd T.length w ∧ (wd T 60 (row T w)).1.length = w.length ∧ R (.int (wnP T w w.length)) k
abbrev t_word_numberP (BC : Addr) : DS := (dSeq (dSet 2 (dCall (sp_row_to_spell BC) (dCons (dVar 0) (dCons (dVar 1) dNil))))
  (dSeq (dIfS (dNot (dTru (dCall (sp_is_shortest BC) (dCons (dVar 0) (dCons (dVar 1) dNil))))) (fun _ _ => False) dNext)
  (dKnown 3 (dSeq (dSet 4 (dC (.int 0)))
  (dSeq (dFor (iSeq (dVar 1)) (dgN 5) (dSeq (t_wn1 BC)
  (dSeq (t_wn2 BC)
  (t_wn3 BC))))
  (dRet (dVar 4)))))))
theorem r_word_numberP (BC : Addr) (X : List Addr) (ds : List D) (k : Nat) (R : D → Nat → Prop) (h : sp_word_numberP BC ds k R) : t_word_numberP BC (En R) (St0 false 9 ds X k) := by
  obtain ⟨T, d, w, rfl, ht, hw, c, hwd, e, h⟩ := h
  refine ⟨_, rfl, _, rfl, T, d, w, rfl, ht, hw, c, hwd, ?_⟩
  refine ⟨_, rfl, _, rfl, T, d, w, rfl, ht, hw, by omega, hwd, ?_⟩
  rw [decide_eq_true e]
  refine ⟨_, rfl, iteF ?_⟩
  have lr : w.reverse.length = w.length := List.length_reverse
  have hz := zs_cl ht (rev_ok hwd)
  have hs : d.items = some (w.map D.int) := by rcases hw with rfl | rfl <;> rfl
  refine ⟨cn T, Zs T w.reverse, zs_len (by omega), by show 3 < 9; decide, ?_⟩
  refine ⟨d, rfl, _, hs, fun p s' => p ≤ w.length ∧ ∃ x5 x6 x7 x8, s' = ⟨X, slD BC T d w p (Zs T w.reverse) (.dat (.int (wnP T w p))) x5 x6 x7 x8, k⟩, ⟨Nat.zero_le _, _, _, _, _, rfl⟩, ?_, ?_⟩
  · rintro p e s' he ⟨hp, x5, x6, x7, x8, rfl⟩
    rw [List.getElem?_map] at he
    obtain ⟨a, ha, rfl⟩ := Option.map_eq_some_iff.mp he
    have pl := (List.getElem?_eq_some_iff.mp ha).1
    have hb := hwd a (List.mem_of_getElem? ha)
    have ga : w.getD p 0 = a := by rw [List.getD_eq_getElem?_getD, ha]; rfl
    have inZ : rwP T w p ∈ Zs T w.reverse := List.mem_map.mpr ⟨_, subs_of (rwP_sub w p), rfl⟩
    refine r_wn1d ht fun y7 => r_wn2d ht hwd c hz inZ fun y8 => ?_
    refine ⟨_, rfl, _, rfl, _, rfl, T, rwP T w p, a, rfl, ht, row_length _ _, hb.1, hb.2, ?_⟩
    have es : wnP T w p + ((ahP T w p a).map (cn T)).sum = wnP T w (p + 1) := by
      show _ = wnP T w p + smP T w p
      unfold smP
      rw [ga, List.map_map]; rfl
    refine ⟨by omega, .dat (.int a), .dat (.lst ((ahP T w p a).map tI)), y7, y8, ?_⟩
    show (⟨X, [.dat (bnd BC T), .dat d, .dat (tI (press T (rwP T w p) (ix a))), .kds (cn T) (Zs T w.reverse), .dat (.int (wnP T w p + ((ahP T w p a).map (cn T)).sum)), .dat (.int a), .dat (.lst ((ahP T w p a).map tI)), y7, y8], k⟩ : S) = _
    rw [rwP_next ht hwd ha, es]
  · rintro s' ⟨hp, x5, x6, x7, x8, rfl⟩
    rw [List.length_map]
    exact fun X' => ⟨_, rfl, h⟩
end BW
set_option maxHeartbeats 1000000
namespace BW
open PySem L2 DL
open Classical in
noncomputable def dnW (T : Mat) (z : List Int) (a : Int) : List Int := if h : ∃ y : List Int, Wd T.length y ∧ y.length + 1 ≤ z.length ∧ press T (row T z) (ix a) = row T y then h.choose else []
theorem dnW_ok {T : Mat} (ht : Tab T) {z : List Int} {a : Int} (hz : Wd T.length z) (ha : a ∈ fall (row T z)) : Wd T.length (dnW T z a) ∧ (dnW T z a).length + 1 ≤ z.length ∧ press T (row T z) (ix a) = row T (dnW T z a) := by
  have h : ∃ y : List Int, Wd T.length y ∧ y.length + 1 ≤ z.length ∧ press T (row T z) (ix a) = row T y := by
    obtain ⟨y, h1, h2, h3, _⟩ := fall_dn ht hz ha
    exact ⟨y, wd_sub h1 hz, by omega, h3⟩
  unfold dnW
  rw [dif_pos h]
  exact h.choose_spec
abbrev PW := List Int × List Int
def encW (T : Mat) (p : PW) : D := .tup [tI p.1, tI (row T p.2)]
def totW (T : Mat) (ws : List PW) : List (List Int) := ws.reverse.flatMap fun p => (spS T (row T p.2)).map (p.1 ++ ·)
def mesW (ws : List PW) : Nat := (ws.map fun p => 7 ^ p.2.length).sum
noncomputable def kidW (T : Mat) (f z : List Int) (a : Int) : PW := (f ++ [a], dnW T z a)
theorem totW_app (T : Mat) (ws vs : List PW) : totW T (ws ++ vs) = totW T vs ++ totW T ws := by
  unfold totW
  rw [List.reverse_append, List.flatMap_append]
theorem totW_one (T : Mat) (f z : List Int) : totW T [(f, z)] = (spS T (row T z)).map (f ++ ·) := by
  unfold totW
  simp
theorem spF_ne (T : Mat) : ∀ (n : Nat) (r : List Int), spF T n r ≠ []
  | 0, _ => by show ([[]] : List (List Int)) ≠ []; simp
  | n + 1, r => by
    show (if fall r = [] then [[]] else (fall r).flatMap fun a => (spF T n (press T r (ix a))).map (a :: ·)) ≠ []
    cases e : fall r with
    | nil => rw [if_pos rfl]; simp
    | cons a l =>
      rw [if_neg (by simp), List.flatMap_cons]
      intro z
      have := (List.append_eq_nil_iff.mp z).1
      exact spF_ne T n _ (List.map_eq_nil_iff.mp this)
theorem totW_len (T : Mat) : ∀ ws : List PW, ws.length ≤ (totW T ws).length
  | [] => by simp
  | p :: ws => by
    rw [show p :: ws = [p] ++ ws from rfl, totW_app, List.length_append, List.length_append]
    have := totW_len T ws
    have h1 : totW T [p] ≠ [] := by
      obtain ⟨f, z⟩ := p
      rw [totW_one]
      exact fun e => spF_ne T 61 _ (List.map_eq_nil_iff.mp e)
    have h2 := List.length_pos_iff.mpr h1
    show [p].length + ws.length ≤ _
    rw [List.length_singleton]
    omega
theorem totW_end {T : Mat} (ht : Tab T) {f z : List Int} (hz : Wd T.length z) (hl : z.length ≤ 60) (e : fall (row T z) = []) : totW T [(f, z)] = [f] := by
  rw [totW_one, spS_eq ht hz hl, if_pos e]
  simp
theorem totW_kids {T : Mat} (ht : Tab T) {f z : List Int} (hz : Wd T.length z) (hl : z.length ≤ 60) (e : fall (row T z) ≠ []) : totW T ((fall (row T z)).reverse.map (kidW T f z)) = totW T [(f, z)] := by
  rw [totW_one, spS_eq ht hz hl, if_neg e]
  unfold totW
  rw [← List.map_reverse, List.reverse_reverse, List.flatMap_map, List.map_flatMap, List.flatMap_def, List.flatMap_def]
  refine congrArg List.flatten (List.map_congr_left fun a ha => ?_)
  obtain ⟨_, _, h3⟩ := dnW_ok ht hz ha
  show (spS T (row T (dnW T z a))).map ((f ++ [a]) ++ ·) = ((spS T (press T (row T z) (ix a))).map (a :: ·)).map (f ++ ·)
  rw [h3, List.map_map]
  refine List.map_congr_left fun u _ => ?_
  show f ++ [a] ++ u = f ++ (a :: u)
  rw [List.append_assoc]; rfl
theorem mesW_app (ws vs : List PW) : mesW (ws ++ vs) = mesW ws + mesW vs := by unfold mesW; rw [List.map_append, List.sum_append]
theorem sum_le_mul {c : Nat} : ∀ {l : List Nat}, (∀ x ∈ l, x ≤ c) → l.sum ≤ l.length * c
  | [], _ => by simp
  | x :: l, h => by
    have := sum_le_mul (l := l) fun y hy => h y (List.mem_cons_of_mem _ hy)
    have h1 := h x List.mem_cons_self
    rw [List.sum_cons, List.length_cons, Nat.add_mul]
    omega
theorem mesW_kids {T : Mat} (ht : Tab T) {f z : List Int} (hz : Wd T.length z) : mesW ((fall (row T z)).reverse.map (kidW T f z)) < mesW [(f, z)] := by
  have hT := ht.hi
  have hf := fall_le (row T z)
  rw [row_length] at hf
  have h1 : mesW [(f, z)] = 7 ^ z.length := by unfold mesW; simp
  rw [h1]
  cases e : fall (row T z) with
  | nil => exact Nat.pos_of_ne_zero (by simp)
  | cons a0 l0 =>
    rw [← e]
    obtain ⟨n, hn⟩ : ∃ n, z.length = n + 1 := by
      obtain ⟨_, h2, _⟩ := dnW_ok ht hz (a := a0) (by rw [e]; exact List.mem_cons_self)
      exact ⟨z.length - 1, by omega⟩
    have h2 := sum_le_mul (c := 7 ^ n) (l := ((fall (row T z)).reverse.map (kidW T f z)).map fun p => 7 ^ p.2.length) fun x hx => by
      obtain ⟨p, hp, rfl⟩ := List.mem_map.mp hx
      obtain ⟨a, ha, rfl⟩ := List.mem_map.mp hp
      obtain ⟨_, h3, _⟩ := dnW_ok ht hz (List.mem_reverse.mp ha)
      exact Nat.pow_le_pow_right (by decide) (by show (dnW T z a).length ≤ n; omega)
    rw [List.length_map, List.length_map, List.length_reverse] at h2
    have h4 : (fall (row T z)).length * 7 ^ n ≤ 6 * 7 ^ n := Nat.mul_le_mul_right _ (by omega)
    have h5 : 0 < 7 ^ n := Nat.pow_pos (by decide)
    rw [hn, Nat.pow_succ]
    unfold mesW
    omega
def spG_shortest_words (BC : Addr) : DSpG := fun ds R _ => ∃ T d w, ds = [bnd BC T, d] ∧ Tab T ∧ isW d w ∧ w.length ≤ 16 ∧ Wd T.length w ∧ (spS T (row T w.reverse)).length ≤ 900000 ∧ R ((spS T (row T w.reverse)).map tI)
abbrev tG_sw2 (BC : Addr) : DGS := (dgPl (dFor (iRvT (dVar 5)) (dgN 6) (dApp 2 (dTup (dCons (dTup (dStar (dVar 3) (dCons (dVar 6) dNil))) (dCons (dCall (sp_pressed BC) (dCons (dVar 0) (dCons (dVar 4) (dCons (dVar 6) dNil)))) dNil))))))
abbrev tG_sw1 (BC : Addr) : DGS := (dgSeq (dgPl (dPop 2 (dgTup 2 (dgCons (dgN 3) (dgCons (dgN 4) dgNil)))))
  (dgSeq (dgPl (dSet 5 (dCall sp_fallen (dCons (dVar 4) dNil))))
  (dgSeq (dgIf (dNot (dTru (dVar 5))) (dgYield (dVar 3)) dgNext)
  (tG_sw2 BC))))
abbrev tG_shortest_words (BC : Addr) (Ex : EX) : DGS := (dgSeq (dgPl (dSetO 2 (dLs (dCons (dTup (dCons (dTup dNil) (dCons (dCall (sp_row_to_spell BC) (dCons (dVar 0) (dCons (dVar 1) dNil))) dNil))) dNil))))
  (dgWhile (dTruN 2) (tG_sw1 BC)))
abbrev slG (BC : Addr) (T : Mat) (d : D) (p : Addr) (ws : List D) (x3 x4 x5 x6 : Sl) : List Sl := [.dat (bnd BC T), .dat d, .own p ws, x3, x4, x5, x6]
section
variable {BC : Addr} {T : Mat} {d : D} {f z : List Int} {X : List Addr} {p : Addr} {k : Nat} {x3 x4 x5 x6 : Sl} {DD : DGE} {ws : List PW} {es : List D}
theorem rG_sw2 (ht : Tab T) (hz : Wd T.length z) (hf : f.length ≤ 1000) (hw : ws.length ≤ 900000) (fin : ∀ x6, DD.nx es ⟨X, slG BC T d p ((ws ++ (fall (row T z)).reverse.map (kidW T f z)).map (encW T)) (.dat (tI f)) (.dat (tI (row T z))) (.dat (tI (fall (row T z)))) x6, k⟩) :
    tG_sw2 BC DD es ⟨X, slG BC T d p (ws.map (encW T)) (.dat (tI f)) (.dat (tI (row T z))) (.dat (tI (fall (row T z)))) x6, k⟩ := by
  have hT := ht.hi
  have lr := row_length T z
  have hfl := fall_le (row T z)
  refine ⟨_, rfl, _, rfl, fun j s' => ∃ x6, s' = ⟨X, slG BC T d p ((ws ++ ((fall (row T z)).reverse.take j).map (kidW T f z)).map (encW T)) (.dat (tI f)) (.dat (tI (row T z))) (.dat (tI (fall (row T z)))) x6, k⟩ ∧ True, ⟨x6, by simp, trivial⟩, ?_, ?_⟩
  · rintro j e s' he ⟨y6, rfl, _⟩
    rw [← List.map_reverse, List.getElem?_map] at he
    obtain ⟨a, ha, rfl⟩ := Option.map_eq_some_iff.mp he
    have am := List.mem_reverse.mp (List.mem_of_getElem? ha)
    obtain ⟨h1, h2, h3⟩ := dnW_ok ht hz am
    obtain ⟨_, _, _, _, h4, h5⟩ := fall_dn ht hz am
    have el : (List.map (encW T) (ws ++ List.map (kidW T f z) (List.take j (fall (row T z)).reverse))).length < lim := by
      rw [List.length_map, List.length_append, List.length_map]
      have := List.length_take_le' j (fall (row T z)).reverse
      rw [List.length_reverse] at this
      exact Nat.lt_of_le_of_lt (by omega : _ ≤ 900006) (by decide)
    have ee : List.map (encW T) (ws ++ List.map (kidW T f z) (List.take (j + 1) (fall (row T z)).reverse)) = List.map (encW T) (ws ++ List.map (kidW T f z) (List.take j (fall (row T z)).reverse)) ++ [D.tup [D.tup (f.map D.int ++ [D.int a]), tI (press T (row T z) (ix a))]] := by
      rw [List.take_succ, ha, List.map_append, List.map_append, List.map_append, List.map_append, ← List.append_assoc]
      show _ = _ ++ _ ++ [_]
      congr 1
      show [D.tup [tI (f ++ [a]), tI (row T (dnW T z a))]] = _
      rw [h3]
      unfold tI
      rw [List.map_append]; rfl
    refine ⟨p, _, rfl, _, rfl, f.map D.int, rfl, _, rfl, ?_⟩
    refine ⟨by rw [List.length_append, List.length_map]; exact Nat.le_trans (by show f.length + 1 ≤ 1001; omega) (by decide : 1001 ≤ lim), ?_⟩
    refine ⟨_, rfl, _, rfl, _, rfl, T, row T z, a, rfl, ht, lr, h4, h5, ?_⟩
    refine ⟨by show 2 ≤ lim; decide, el, .dat (.int a), ?_, trivial⟩
    unfold slG
    rw [ee]
    rfl
  · rintro s' ⟨y6, rfl, _⟩
    have e : (((fall (row T z)).map D.int).reverse).length = (fall (row T z)).reverse.length := by rw [List.length_reverse, List.length_map, List.length_reverse]
    rw [e, List.take_length]
    exact fin y6
theorem rG_sw1 (ht : Tab T) (hz : Wd T.length z) (hzl : z.length ≤ 16) (hf : f.length ≤ 1000) (hw : ws.length ≤ 900000) (he : es.length < lim)
    (fin1 : fall (row T z) = [] → ∀ x3 x4 x5 x6, DD.nx (es ++ [tI f]) ⟨X, slG BC T d p (ws.map (encW T)) x3 x4 x5 x6, k⟩)
    (fin2 : fall (row T z) ≠ [] → ∀ x3 x4 x5 x6, DD.nx es ⟨X, slG BC T d p ((ws ++ (fall (row T z)).reverse.map (kidW T f z)).map (encW T)) x3 x4 x5 x6, k⟩) :
    tG_sw1 BC DD es ⟨X, slG BC T d p ((ws ++ [(f, z)]).map (encW T)) x3 x4 x5 x6, k⟩ := by
  have lr := row_length T z
  have hT := ht.hi
  rw [List.map_append]
  refine ⟨p, ws.map (encW T), encW T (f, z), rfl, rfl, ?_⟩
  refine ⟨rfl, ?_⟩
  refine ⟨_, rfl, row T z, rfl, by omega, ?_⟩
  refine ⟨_, rfl, _, rfl, ?_⟩
  by_cases e : fall (row T z) = []
  · have fin1 := fin1 e
    have e2 : (((fall (row T z)).map D.int).isEmpty) = true := by rw [e]; rfl
    rw [e2]
    refine iteT ⟨he, _, rfl, ?_⟩
    refine rG_sw2 ht hz hf hw fun y6 => ?_
    rw [e]
    show DD.nx _ ⟨X, slG BC T d p ((ws ++ []).map (encW T)) _ _ _ _, k⟩
    rw [List.append_nil]
    exact fin1 _ _ _ _
  · have e2 : (((fall (row T z)).map D.int).isEmpty) = false := by
      cases q : fall (row T z) with
      | nil => exact absurd q e
      | cons a l => rfl
    rw [e2]
    refine iteF ?_
    exact rG_sw2 ht hz hf hw fun y6 => fin2 e _ _ _ _
end
theorem rG_shortest_words (BC : Addr) (X : List Addr) (ds : List D) (R : List D → Prop) (E : D → Prop) (h : spG_shortest_words BC ds R E) : tG_shortest_words BC (fun d _ => E d) { nx := fun es _ => R es } [] (St0 false 7 ds X 0) := by
  obtain ⟨T, d, w, rfl, ht, hw, hl, hwd, hb, h⟩ := h
  have lr : w.reverse.length = w.length := List.length_reverse
  refine ⟨by show 0 ≤ lim; decide, ?_⟩
  refine ⟨_, rfl, _, rfl, T, d, w, rfl, ht, hw, hl, hwd, ?_⟩
  refine ⟨by show 2 ≤ lim; decide, by show 1 ≤ lim; decide, fun p hp => ?_⟩
  refine ⟨fun m es s' => ∃ (out : List (List Int)) (ws : List PW) (x3 x4 x5 x6 : Sl), s' = ⟨p :: X, slG BC T d p (ws.map (encW T)) x3 x4 x5 x6, 0⟩ ∧ es = out.map tI ∧ m = mesW ws ∧ out ++ totW T ws = spS T (row T w.reverse) ∧ ∀ q ∈ ws, Wd T.length q.2 ∧ q.1.length + q.2.length ≤ 16, ⟨mesW [([], w.reverse)], [], [([], w.reverse)], .no, .no, .no, .no, rfl, rfl, rfl, ?_, ?_⟩, ?_⟩
  · rw [totW_one]; simp
  · intro q hq
    have := List.mem_singleton.mp hq
    subst this
    exact ⟨rev_ok hwd, by show 0 + w.reverse.length ≤ 16; omega⟩
  rintro m es' s' ⟨out, ws, x3, x4, x5, x6, rfl, rfl, rfl, e, hq⟩
  have l1 : out.length + (totW T ws).length ≤ 900000 := by rw [← List.length_append, e]; exact hb
  have l2 := totW_len T ws
  refine ⟨ws.map (encW T), rfl, ?_⟩
  rcases List.eq_nil_or_concat ws with rfl | ⟨vs, q, ev⟩
  · refine iteF ?_
    have : out = spS T (row T w.reverse) := by rw [← e]; exact (List.append_nil out).symm
    rw [this]
    exact h
  · obtain ⟨f, z⟩ := q
    rw [List.concat_eq_append] at ev
    subst ev
    obtain ⟨wz, lz⟩ := hq (f, z) (by simp)
    have wz : Wd T.length z := wz
    have lz : f.length + z.length ≤ 16 := lz
    have ne : (!((vs ++ [(f, z)]).map (encW T)).isEmpty) = true := by
      rw [List.map_append]
      cases vs <;> rfl
    have lv : vs.length ≤ 900000 := by
      rw [List.length_append] at l2
      omega
    rw [totW_app] at e
    rw [ne]
    refine iteT ?_
    refine rG_sw1 ht wz (by omega) (by omega) lv (by rw [List.length_map]; exact Nat.lt_of_le_of_lt (by omega : _ ≤ 900000) (by decide)) (fun e0 y3 y4 y5 y6 => ?_) (fun e0 y3 y4 y5 y6 => ?_)
    · rw [totW_end ht wz (by omega) e0] at e
      refine ⟨mesW vs, ?_, out ++ [f], vs, y3, y4, y5, y6, rfl, by rw [List.map_append]; rfl, rfl, by rw [List.append_assoc]; exact e, fun q h => hq q (List.mem_append_left _ h)⟩
      rw [mesW_app]
      have : 0 < mesW [(f, z)] := by unfold mesW; simp [Nat.pow_pos]
      omega
    · refine ⟨mesW (vs ++ (fall (row T z)).reverse.map (kidW T f z)), ?_, out, _, y3, y4, y5, y6, rfl, rfl, rfl, by rw [totW_app, totW_kids ht wz (by omega) e0]; exact e, fun q h => ?_⟩
      · rw [mesW_app, mesW_app]
        have := mesW_kids ht (f := f) wz
        omega
      · rcases List.mem_append.mp h with h | h
        · exact hq q (List.mem_append_left _ h)
        · obtain ⟨a, ha, rfl⟩ := List.mem_map.mp h
          obtain ⟨h1, h2, _⟩ := dnW_ok ht wz (List.mem_reverse.mp ha)
          refine ⟨h1, ?_⟩
          show (f ++ [a]).length + (dnW T z a).length ≤ 16
          rw [List.length_append, List.length_singleton]
          omega
end BW
set_option maxHeartbeats 1000000
namespace L2
open PySem PySem.Spec PyProof.Rows GenW
structure Dozed (Z : List Addr) (a b : Shared) : Prop where
  o1 : b.os = a.os
  g1 : AllBare b.gens
  k1 : ∀ x o, x ∉ Z → a.heap.get? x = some o → b.heap.get? x = some o
  z1 : ∀ x ∈ Z, ∃ o, b.heap.get? x = some o ∧ ∀ v, o.data ≠ .cell v
def IZ (X : Cx) (Z : List Addr) (G : List V → Shared → Prop) (ys : List V) (s0 : Shared) (σ : St) (H : Hp) (s : Shared) : Prop := G ys s0 ∧ ∃ zo : List (Addr × Obj), zo.map Prod.fst = Z ∧ (∀ p ∈ zo, s0.heap.get? p.1 = some p.2) ∧ Inv X zo σ H s
structure AZ (X : Cx) (Z : List Addr) : Prop where
  pz : ∀ p ∈ X.pn, p.1 ∉ Z
  yz : ∀ z ∈ Z, X.s_0.heap.objs.size ≤ z ∧ z ≠ X.env.locals ∧ ∀ y c, X.env.cells.lookup y = some c → c ≠ z
theorem zo_of {Z : List Addr} {b : Shared} (h : ∀ x ∈ Z, ∃ o, b.heap.get? x = some o ∧ ∀ v, o.data ≠ .cell v) : ∃ zo : List (Addr × Obj), zo.map Prod.fst = Z ∧ ∀ p ∈ zo, b.heap.get? p.1 = some p.2 ∧ ∀ v, p.2.data ≠ .cell v := by
  induction Z with
  | nil => exact ⟨[], rfl, fun p hp => absurd hp (by simp)⟩
  | cons z Z ih =>
    obtain ⟨zo, h1, h2⟩ := ih fun x hx => h x (List.mem_cons_of_mem _ hx)
    obtain ⟨o, h3, h4⟩ := h z List.mem_cons_self
    refine ⟨(z, o) :: zo, by rw [List.map_cons, h1], fun p hp => ?_⟩
    rcases List.mem_cons.mp hp with rfl | hp
    · exact ⟨h3, h4⟩
    · exact h2 p hp
theorem IZ.wake {X : Cx} {Z : List Addr} {G : List V → Shared → Prop} {ys ys' : List V} {s0 a b : Shared} {σ : St} {H : Hp} (hz : AZ X Z) (h : IZ X Z G ys s0 σ H a) (d : Dozed Z a b) (hG : G ys' b) : IZ X Z G ys' b σ H b := by
  obtain ⟨_, zo, e0, _, I⟩ := h
  have zp : ∀ z ∈ Z, ∃ o, H z = none ∧ z ≠ X.env.locals ∧ z ∉ X.fs ∧ a.heap.get? z = some o := fun z hz => by
    rw [← e0] at hz
    obtain ⟨p, hp, rfl⟩ := List.mem_map.mp hz
    obtain ⟨h1, h2, h3, h4, _⟩ := I.pin p (List.mem_append_right _ hp)
    exact ⟨p.2, h2, h3, h4, h1⟩
  have J0 : Inv X [] σ H a := I.pins_of fun p hp => absurd hp (by simp)
  have un : ∀ x u, H x = some u → x ∉ Z := fun x u hx hz => by
    obtain ⟨_, h2, _⟩ := zp x hz
    rw [h2] at hx; cases hx
  have J : Inv X [] σ H b := by
    obtain ⟨hh, gg, dd, tt, oo⟩ := b
    have eo : oo = a.os := d.o1
    subst eo
    refine J0.step (g' := gg) (t' := tt) (d' := dd) (ch := Z) (fun z hb => ?_) (fun x o _ _ hc q _ => d.k1 x o hc q) (fun x o _ _ hc q _ => ⟨o.slots, d.k1 x o hc q⟩) (fun _ _ _ _ q => q)
      (fun x o hc q => ⟨o, d.k1 x o hc q⟩) (fun _ _ q => q) (fun _ _ _ q => q) (fun x ps q => ⟨#[], by rw [q]; simp⟩) (fun m hm => ?_) (fun x u q => ?_) d.g1
    · obtain ⟨y1, y2, y3⟩ := hz.yz z hb
      refine ⟨.inr y1, y2, y3, fun p hp e => ?_⟩
      rw [List.append_nil] at hp
      exact hz.pz p hp (e ▸ hb)
    · obtain ⟨o, es, ep, ho, r⟩ := hm
      refine ⟨o, es, ep, d.k1 _ o (fun hb => (hz.yz _ hb).2.1 rfl) ho, r⟩
    · refine (J0.hok x u q).stay (fun c v hc y => d.k1 c v ?_ y) (fun _ y => y) fun _ _ y => y
      rcases hc with y | y
      · rw [y]; exact un x u q
      · exact un c _ y
  obtain ⟨zo', e1, h1⟩ := zo_of d.z1
  refine ⟨hG, zo', e1, fun p hp => (h1 p hp).1, J.pins_of fun p hp => ?_⟩
  have hm : p.1 ∈ Z := by rw [← e1]; exact List.mem_map_of_mem hp
  obtain ⟨_, h2, h3, h4, _⟩ := zp _ hm
  exact ⟨(h1 p hp).1, h2, h3, h4, (h1 p hp).2⟩
structure Asks where
  it : List V → V → Hp → Prop
  more : Bool
  G : List V → Shared → Prop
def PZ (X : Cx) (Z : List Addr) (L : Asks) : Protocol := fun n s0 v s kap => ∃ ys x σ H, n + 1 + ys.length = sizeLine ∧ RelV x v ∧ IZ X Z L.G ys s0 σ H s ∧ L.it ys x H ∧ (L.more = true → ∀ b, Dozed Z s b → L.G (ys ++ [x]) b → kap (.send .none) b)
structure ZEnds where
  nx : List V → St → Hp → Prop
  bk : List V → St → Hp → Prop := fun _ _ _ => False
  ct : List V → St → Hp → Prop := fun _ _ _ => False
abbrev TZn := ZEnds → Asks → List V → St → Hp → Prop
def ZEnds.at (D : ZEnds) (ys : List V) : Ends := { nx := D.nx ys, rt := fun _ _ => False, bk := D.bk ys, ct := D.ct ys }
def ZP (X : Cx) (Z : List Addr) (G : List V → Shared → Prop) (s0 : Shared) (D : ZEnds) (ys : List V) (f : Flow) (s : Shared) : Prop :=
  match f with
  | .next => ∃ σ H, IZ X Z G ys s0 σ H s ∧ D.nx ys σ H
  | .brk => ∃ σ H, IZ X Z G ys s0 σ H s ∧ D.bk ys σ H
  | .cont => ∃ σ H, IZ X Z G ys s0 σ H s ∧ D.ct ys σ H
  | .ret _ => False
structure CZ (X : Cx) (Z : List Addr) (A : Around) (c : Code) (fs : List Frame) (gd : Bool → Bool) : Prop extends AZ X Z where
  ov : A.over c fs = X.A
  sp : splitAtGen fs = none
  gu : fs.any Frame.guarded = false
  gz : gd false = false
structure NZ (X : Cx) (Z : List Addr) (A : Around) (R : GenEnd) (L : Asks) (c : Code) (fs : List Frame) (K : Flow → Sem PySem.Fin) (J : Value → Sem PySem.Fin) (D : ZEnds) : Prop where
  ok : ∀ (n : Nat) (ys : List V) (s0 s : Shared) (f : Flow), n + ys.length = sizeLine → ZP X Z L.G s0 D ys f s → Seg (model X.prog X.w) A R (PZ X Z L) n s0 c (K f) fs s
  ex : ∀ (n : Nat) (s0 : Shared) (e : Value) (s : Shared), X.xe e s → Seg (model X.prog X.w) A R (PZ X Z L) n s0 c (J e) fs s
structure WZ (X : Cx) (m : Sem Flow) (t : TZn) : Prop where
  go : ∀ {A : Around} {Z : List Addr} {R : GenEnd} {L : Asks} {n : Nat} {ys : List V} {s0 : Shared} {c : Code} {fs : List Frame} {K : Flow → Sem PySem.Fin} {J : Value → Sem PySem.Fin} {gd : Bool → Bool} {lv : List Value → List Value} {s : Shared} {σ : St} {H : Hp} {D : ZEnds},
    CZ X Z A c fs gd → n + ys.length = sizeLine → NZ X Z A R L c fs K J D → IZ X Z L.G ys s0 σ H s → t D L ys σ H → Seg (model X.prog X.w) A R (PZ X Z L) n s0 c (m.wrap K J gd lv) fs s
section
variable {X : Cx} {st : Stmt} {rest : List Stmt} {pos : Pos}
theorem WZ.weak {m : Sem Flow} {t u : TZn} (h : WZ X m t) (w : ∀ D L ys σ H, u D L ys σ H → t D L ys σ H) : WZ X m u := ⟨fun g hn k hI q => h.go g hn k hI (w _ _ _ _ _ q)⟩
theorem zp_sp {Z : List Addr} {G : List V → Shared → Prop} {zo : List (Addr × Obj)} {s0 s : Shared} {D : ZEnds} {ys : List V} {f : Flow} (e : zo.map Prod.fst = Z) (h0 : ∀ p ∈ zo, s0.heap.get? p.1 = some p.2) (hG : G ys s0) (h : SP X zo (D.at ys) f s) : ZP X Z G s0 D ys f s := by
  cases f with
  | next => obtain ⟨σ, H, I, q⟩ := h; exact ⟨σ, H, ⟨hG, zo, e, h0, I⟩, q⟩
  | brk => obtain ⟨σ, H, I, q⟩ := h; exact ⟨σ, H, ⟨hG, zo, e, h0, I⟩, q⟩
  | cont => obtain ⟨σ, H, I, q⟩ := h; exact ⟨σ, H, ⟨hG, zo, e, h0, I⟩, q⟩
  | ret u => obtain ⟨v, σ, H, I, r1, q⟩ := h; exact q
theorem wz_ps {t : TS} (h : PS X st t) : WZ X (exec st X.env) (fun D L ys σ H => t (D.at ys) σ H) :=
  ⟨fun {A Z R L n ys s0 c fs K J gd lv s σ H D} g hn k hI ht => by
    obtain ⟨hG, zo, e, h0, I⟩ := hI
    refine seg_wrap ?_
    rw [g.ov]
    exact wpAny_mono (h.run _ s σ H (D.at ys) I ht) (fun f b hs => k.ok n ys s0 b f hn (zp_sp e h0 hG hs)) fun x b hx => k.ex n s0 x b hx⟩
theorem wz_nil : WZ X (execs [] X.env) (fun D L ys σ H => D.nx ys σ H) := ⟨fun {A Z R L n ys s0 c fs K J gd lv s σ H D} g hn k hI ht => seg_execs_nil (k.ok n ys s0 s .next hn ⟨σ, H, hI, ht⟩)⟩
theorem wz_cons {t u : TZn} (a : WZ X (exec st X.env) t) (b : WZ X (execs rest X.env) u) : WZ X (execs (st :: rest) X.env) (fun D L ys σ H => t { D with nx := fun ys' σ' H' => u D L ys' σ' H' } L ys σ H) :=
  ⟨fun {A Z R L n ys s0 c fs K J gd lv s σ H D} g hn k hI ht => seg_execs_cons (a.go g hn ⟨fun n2 ys2 s2 s3 f hn2 hs => by
    cases f with
    | next =>
      obtain ⟨σ2, H2, I2, q⟩ := hs
      exact b.go g hn2 k I2 q
    | brk => exact k.ok n2 ys2 s2 s3 .brk hn2 hs
    | cont => exact k.ok n2 ys2 s2 s3 .cont hn2 hs
    | ret u => exact k.ok n2 ys2 s2 s3 (.ret u) hn2 hs, k.ex⟩ hI ht)⟩
theorem wz_if {e : Expr} {a b : List Stmt} {tc : TT} {t u : TZn} (hc : PT X e tc) (ha : WZ X (execs a X.env) t) (hb : WZ X (execs b X.env) u) : WZ X (exec (.If e a b pos) X.env) (fun D L ys σ H => tc σ H fun x H1 => if x = true then t D L ys σ H1 else u D L ys σ H1) := by
  refine ⟨fun {A Z R L n ys s0 c fs K J gd lv s σ H D} g hn k hI ht => ?_⟩
  rw [exec_If]
  show Seg _ _ _ _ n s0 c (.at pos fun _ => ((isTrue e X.env (eval e X.env) >>= fun x => if x = true then execs a X.env else execs b X.env) : Sem Flow).wrap K J gd lv) fs s
  obtain ⟨hG, zo, ez, h0, I⟩ := hI
  refine seg_at (seg_bind_wrap ?_)
  rw [g.ov]
  refine wpAny_mono (hc.run _ s σ H _ I ht) (fun v b2 hv => ?_) fun x b2 hx => k.ex n s0 x b2 hx
  obtain ⟨H1, I1, q⟩ := hv
  cases v with
  | true => exact ha.go g hn k ⟨hG, zo, ez, h0, I1⟩ q
  | false => exact hb.go g hn k ⟨hG, zo, ez, h0, I1⟩ q
theorem wz_yield {e : Expr} {yp : Pos} {te : TE} (he : PE X e te) (hco : X.env.scope.isCoroutine = false := by rfl) (hi : interactive X.env = false := by rfl) : WZ X (exec (.Expr (.Yield (some e) yp) pos) X.env)
    (fun D L ys σ H => ys.length < sizeLine ∧ te σ H fun x H1 => L.it ys x H1 ∧ (L.more = true → D.nx (ys ++ [x]) σ H1)) := by
  refine ⟨fun {A Z R L n ys s0 c fs K J gd lv s σ H D} g hn k hI ht => ?_⟩
  obtain ⟨hl, ht⟩ := ht
  obtain ⟨n, rfl⟩ : ∃ m, n = m + 1 := ⟨n - 1, by omega⟩
  obtain ⟨hG, zo, ez, h0, I⟩ := hI
  refine seg_Expr_Yield g.sp g.gz g.gu ?_ hco hi
  rw [g.ov]
  refine wpAny_mono (he.run _ s σ H _ I ht) (fun v b hv => ?_) fun x b hx => k.ex _ s0 x b hx
  obtain ⟨x, H1, I1, rv, q1, q2⟩ := hv
  have J1 : IZ X Z L.G ys s0 σ H1 b := ⟨hG, zo, ez, h0, I1⟩
  intro kap hk
  refine ⟨ys, x, σ, H1, hn, rv, J1, q1, fun hm d hd hg2 => hk .none d (k.ok n (ys ++ [x]) d d .next ?_ ⟨σ, H1, J1.wake g.toAZ hd hg2, q2 hm⟩)⟩
  rw [List.length_append, List.length_singleton]; omega
theorem cz_in {Z : List Addr} {A : Around} {c d : Code} {fs : List Frame} {gd : Bool → Bool} {k : Result → Sem PySem.Fin} {l kp : List Value} {p : Pos} (g : CZ X Z A c fs gd) (hw : d.weight = 0) (hu : d.cUnits = 0) : CZ X Z A d (.ret k none (gd false) l c p kp :: fs) id where
  toAZ := g.toAZ
  ov := (over_loop hw hu).trans g.ov
  sp := by
    show (splitAtGen fs).map _ = none
    rw [g.sp]; rfl
  gu := by
    show (gd false || fs.any Frame.guarded) = false
    rw [g.gz, g.gu]; rfl
  gz := rfl
theorem wz_while {e : Expr} {body : List Stmt} {tc : TT} {tb : TZn} (hp : PassesOwn (model X.prog X.w) X.A X.env X.xe) (hc : PT X e tc) (hb : WZ X (execs body X.env) tb) : WZ X (exec (.While e body [] pos) X.env)
    (fun D L ys σ H => ∃ W : Nat → List V → St → Hp → Prop, (∃ m, W m ys σ H) ∧ ∀ m ys σ H, W m ys σ H → tc σ H fun x H1 => if x = true then tb { D with nx := fun a b c => ∃ m', m' < m ∧ W m' a b c, ct := fun a b c => ∃ m', m' < m ∧ W m' a b c, bk := D.nx } L ys σ H1 else D.nx ys σ H1) := by
  refine ⟨fun {A Z R L n ys s0 c fs K J gd lv s σ H D} g hn k hI ht => ?_⟩
  obtain ⟨W, ⟨m0, w0⟩, turn⟩ := ht
  refine seg_While fun p => ?_
  have gl := fun (kk : Result → Sem PySem.Fin) => cz_in (k := kk) (d := .whileLoop e body [] X.env) (l := lv []) (kp := []) (p := p) g rfl rfl
  have hx : ∀ (n : Nat) (s0 : Shared) (x : Value) (b : Shared), cameBackBy (model X.prog X.w) X.A X.env X.xe x b → Seg (model X.prog X.w) A R (PZ X Z L) n s0 c (((Sem.raise x : Sem Flow).onRaise (cameBack X.env)).wrap K J gd lv) fs b := fun n s0 x b h => by
    show Seg _ _ _ _ _ _ _ (((cameBack X.env x).bind fun _ => (Sem.raise x : Sem Flow)).wrap K J gd lv) _ _
    rw [Sem.bind_eq_wrap, Sem.wrap_wrap]
    refine seg_wrap ?_
    rw [g.ov]
    exact wpAny_mono h (fun _ b2 h2 => k.ex n s0 x b2 h2) fun y b2 h2 => k.ex n s0 y b2 h2
  have hall : ∀ (m n : Nat) (ys : List V) (s0 s : Shared) (σ : St) (H : Hp), n + ys.length = sizeLine → W m ys σ H → IZ X Z L.G ys s0 σ H s →
      Seg (model X.prog X.w) A R (PZ X Z L) n s0 (.whileLoop e body [] X.env) ((model X.prog X.w).den (.whileLoop e body [] X.env))
        (.ret (fun r => ((match r with | .ok f => (.pure f : Sem Flow) | .error x => .raise x).onRaise (cameBack X.env)).wrap K J gd lv) none (gd false) (lv []) c p [] :: fs) s := by
    intro m
    induction m using Nat.strongRecOn with
    | ind m ih =>
      intro n ys s0 s σ H hn w hI
      have raised : ∀ (n : Nat) (s0 : Shared) (x : Value) (b : Shared), X.xe x b → Seg (model X.prog X.w) A R (PZ X Z L) n s0 (.whileLoop e body [] X.env) ((do noteFrame x X.env; theTreesLotGoes x : Sem Unit).wrap (fun _ => .raise x) .raise id id)
          (.ret (fun r => ((match r with | .ok f => (.pure f : Sem Flow) | .error x => .raise x).onRaise (cameBack X.env)).wrap K J gd lv) none (gd false) (lv []) c p [] :: fs) b := fun n s0 x b h => by
        refine seg_wrap ?_
        rw [(gl _).ov]
        exact wpAny_bind (wpAny_mono (hp x b h) (fun _ b2 h2 => wpAny_theTreesLotGoes (seg_leaf (.error x) (hx n s0 x b2 h2))) fun y b2 h2 => seg_leaf (.error y) (hx n s0 y b2 h2))
      refine seg_whileLoop ?_
      rw [(gl _).ov]
      obtain ⟨hG, zo, ez, h0, I⟩ := hI
      refine wpAny_mono (hc.run _ s σ H _ I (turn m ys σ H w)) (fun x b hb' => ?_) fun x b h => raised n s0 x b h
      obtain ⟨H2, I2, q2⟩ := hb'
      cases x with
      | true =>
        rw [if_pos rfl] at q2 ⊢
        refine hb.go (D := { D with nx := fun a b c => ∃ m', m' < m ∧ W m' a b c, ct := fun a b c => ∃ m', m' < m ∧ W m' a b c, bk := D.nx }) (gl _) hn ⟨fun n2 ys2 s2 s3 f hn2 hs => ?_, fun n2 s2 x s3 h => raised n2 s2 x s3 h⟩ ⟨hG, zo, ez, h0, I2⟩ q2
        cases f with
        | next => obtain ⟨σ3, H3, I3, m', hm, w3⟩ := hs; exact seg_again rfl (ih m' hm n2 ys2 s2 s3 σ3 H3 hn2 w3 I3)
        | cont => obtain ⟨σ3, H3, I3, m', hm, w3⟩ := hs; exact seg_again rfl (ih m' hm n2 ys2 s2 s3 σ3 H3 hn2 w3 I3)
        | brk => exact seg_leaf (.ok .next) (k.ok n2 ys2 s2 s3 .next hn2 hs)
        | ret v => exact False.elim hs
      | false =>
        rw [if_neg Bool.false_ne_true] at q2 ⊢
        exact seg_execs_nil (seg_leaf (.ok .next) (k.ok n ys s0 b .next hn ⟨σ, H2, ⟨hG, zo, ez, h0, I2⟩, q2⟩))
  exact hall m0 n ys s0 s σ H hn w0 hI
end
end L2
set_option maxHeartbeats 1000000
namespace L2
open PySem PySem.Spec PyProof.Rows GenW
abbrev SpZ := List V → Hp → (List V → V → Hp → Prop) → Bool → (List V → Hp → Prop) → XK → Prop
structure StandsZ (P : Program) (w : World) (outer : List Env) (H : Hp) (s : Shared) (Z : List Addr) (H' : Hp) (s0 s1 : Shared) : Prop where
  os : s1.os = s.os
  bare : AllBare s1.gens
  un : Un (frs outer) [] H H' s.heap s1.heap
  ok : HOk P w H' s1.heap
  z : ∀ z ∈ Z, H' z = none ∧ s1.heap.get? z = s0.heap.get? z
def EndZ (P : Program) (w : World) (outer : List Env) (H : Hp) (s : Shared) (Z : List Addr) (a : Addr) (g : Nat) (G : List V → Shared → Prop) (Q : List V → Hp → Prop) (E : XK) : GenEnd := fun n s0 r s1 =>
  ((r = .ok (.ret .none) ∨ r = .ok .next) ∧ ∃ H' ys, n + ys.length = sizeLine ∧ StandsZ P w outer H s Z H' s0 s1 ∧ G ys s0 ∧ Q ys H') ∨ ∃ e, r = .error e ∧ CX P w outer H s E e s1 ∧ s1.heap.IsGen a g
def ItemZ (P : Program) (w : World) (outer : List Env) (H : Hp) (s : Shared) (Z : List Addr) (a : Addr) (g : Nat) (L : Asks) : Protocol := fun n s0 v s1 kap =>
  ∃ H' ys x, n + 1 + ys.length = sizeLine ∧ RelV x v ∧ StandsZ P w outer H s Z H' s0 s1 ∧ s1.heap.NoLimit ∧ s1.heap.IsGen a g ∧ L.G ys s0 ∧ L.it ys x H' ∧ (L.more = true → ∀ b, Dozed Z s1 b → L.G (ys ++ [x]) b → kap (.send .none) b)
structure FreshZ (P : Program) (w : World) (k : Nat) (outer : List Env) (H : Hp) (s : Shared) (it : List V → V → Hp → Prop) (more : Bool) (Q : List V → Hp → Prop) (E : XK) (a : Addr) (g : Nat) (cd : Code) (b : Shared) : Prop where
  lo : s.heap.objs.size ≤ a
  hi : a < b.heap.objs.size
  gen : b.heap.IsGen a g
  at_ : b.gens[g]? = some (.fresh cd)
  os : b.os = s.os
  bare : AllBare b.gens
  nl : b.heap.NoLimit
  kp : ∀ x o, s.heap.get? x = some o → b.heap.get? x = some o
  wk : ∀ (A : Around) (Z : List Addr) (G : List V → Shared → Prop) (b2 : Shared), Room k A → A.frames = some outer → (∀ z ∈ Z, b.heap.objs.size ≤ z) → (∀ x o, b.heap.get? x = some o → b2.heap.get? x = some o) → (∀ z ∈ Z, ∃ o, b2.heap.get? z = some o ∧ ∀ v, o.data ≠ .cell v) →
    b2.os = s.os → AllBare b2.gens → G [] b2 → Seg (model P w) A (EndZ P w outer H s Z a g G Q E) (ItemZ P w outer H s Z a g ⟨it, more, G⟩) sizeLine b2 cd ((model P w).den cd) [] b2
structure GFnZ (P : Program) (w : World) (K : PySem.W.Frag) (mg : Str → Option Value) (base : Heap) (k : Nat) (f : Addr) (fd : FuncData) (ps : List Str) (sp : SpZ) : Prop where
  len : ∀ vs H it more Q E, sp vs H it more Q E → vs.length = ps.length
  run : ∀ (A : Around) (outer : List Env) (s : Shared) (H : Hp) (args : Args) (us : List Value) (vs : List V) (it : List V → V → Hp → Prop) (more : Bool) (Q : List V → Hp → Prop) (E : XK), Room k A → Env0 P w K mg base A outer s H → BindsTo s fd args (ps.zip us) → Vals vs us → sp vs H it more Q E →
    codeAny (model P w) A (.call (.ref f) args) (fun r b => match r with | .ok (.ret u) => ∃ a g cd, u = .ref a ∧ FreshZ P w k outer H s it more Q E a g cd b | _ => False) s
theorem gfnz_of {P : Program} {w : World} {K : PySem.W.Frag} {mg : Str → Option Value} {base : Heap} {k : Nat} {f : Addr} {name qual : Str} {params : Arguments} {body : List Stmt} {scope : Scope} {dV kV doc pm cdv ct oc : Value} {an od : Option Addr}
    {osl : Array (Option Value)} {N ps : List Str} {sp : SpZ} (lk : K.lookup f = some ⟨oc, od, .func (PySem.W.fnOf name qual params body scope dV kV doc pm an cdv ct), osl⟩) (hcd : PySem.W.codeIn K cdv qual = true) (S : GScope N ps scope)
    (len : ∀ vs H it more Q E, sp vs H it more Q E → vs.length = ps.length)
    (hbody : ∀ (A : Around) (outer : List Env) (s : Shared) (H : Hp) (vs : List V) (it : List V → V → Hp → Prop) (more : Bool) (Q : List V → Hp → Prop) (E : XK) (pn : List (Addr × Obj)), Room k (A.deeper (envOfC qual scope s.heap.objs.size f cdv)) → sp vs H it more Q E →
      ∃ t, WZ (gcxOf P w K mg base N qual scope f cdv A outer s H E pn) (execs body (gcxOf P w K mg base N qual scope f cdv A outer s H E pn).env) t ∧ ∀ G, t { nx := fun ys _ H' => Q ys H' } ⟨it, more, G⟩ [] (start N vs) H) :
    GFnZ P w K mg base (k + 1) f (PySem.W.fnOf name qual params body scope dV kV doc pm an cdv ct) ps sp := by
  refine ⟨len, fun A outer s H args us vs it more Q E room e0 bt rv hsp => ?_⟩
  have hlen := len _ _ _ _ _ _ hsp
  have kIn : K.In s.heap := e0.mod.kin.keeps fun x o e => (e0.bs x o e).1
  have noLim : s.heap.NoLimit := e0.mod.nolimit.keeps fun x o e => (e0.bs x o e).1
  have kinds : ∀ y ∈ ps.zip us, scope.names.lookup y.1 = some .local ∨ (scope.names.lookup y.1 = some .cell ∧ ((cellsFrom (s.heap.objs.size + 1) scope.names []).lookup y.1).isSome = true) := fun ⟨n, v⟩ hy =>
    (S.par n (List.of_mem_zip hy).1).elim .inl fun q => .inr ⟨q, PySem.W.cellsFrom_some _ _ _ (.inl q)⟩
  refine codeAny_call_generator room.depth (kIn _ _ lk) rfl S.co S.gen rfl (PySem.W.codeRec_of kIn hcd) (bt _ _ _ _ (wpAny_newFunctionEnv_cells S.kind kinds fun env he b x => ?_))
  subst he
  have nl1 : b.heap.NoLimit := noLim.keeps x.toInCall.keep
  refine ⟨nl1, ?_⟩
  obtain ⟨h1, tk, es1, hk1⟩ := x.done
  have os1 : b.os = s.os := by rw [es1]
  have gen1 : b.gens = s.gens := by rw [es1]
  have lt1 : s.heap.objs.size < b.heap.objs.size := x.toInCall.ns.lt
  have sz1 : s.heap.objs.size ≤ b.heap.objs.size := Nat.le_of_lt lt1
  have kp1 : ∀ y o, s.heap.get? y = some o → b.heap.get? y = some o := x.toInCall.keep
  have main : ∀ (go : Obj) (nm qn : Value) (tk2 : Nat), go.cls = .type "generator" → go.data = .fields #[.int b.gens.size 0, nm, qn] → go.slots = #[] → (∀ h : Heap, (h.push go).get? h.objs.size = some go) →
      ∃ a g cd, Value.ref b.heap.objs.size = .ref a ∧ FreshZ P w (k + 1) outer H s it more Q E a g cd { b with gens := b.gens.push (.fresh (.func body (envOfC qual scope s.heap.objs.size f cdv))), toks := tk2, heap := b.heap.push go } := by
    intro go nm qn tk2 gc gd gs gp
    have isg : ∀ h : Heap, h.get? b.heap.objs.size = some go → h.IsGen b.heap.objs.size b.gens.size := fun h e => ⟨go, nm, qn, e, gc, gd, gs⟩
    have pushed : (b.heap.push go).get? b.heap.objs.size = some go := gp _
    refine ⟨b.heap.objs.size, b.gens.size, .func body (envOfC qual scope s.heap.objs.size f cdv), rfl, ?_⟩
    refine { lo := sz1, hi := ?_, gen := isg _ pushed, at_ := Array.getElem?_push_size .., os := os1, bare := ?_, nl := nl1.keeps fun y o e => Heap.get?_push_of_some _ e, kp := fun y o e => Heap.get?_push_of_some _ (kp1 y o e), wk := ?_ }
    · show _ < (b.heap.push _).objs.size
      rw [Heap.size_push]; exact Nat.lt_succ_self _
    · exact AllBare.push (by rw [gen1]; exact e0.bare) rfl
    intro Aw Z G b2 rw2 fr2 zy kp2' zo os2 ba2 g0
    have e0w : Env0 P w K mg base Aw outer s H := ⟨fr2, e0.mod, e0.bs, e0.bsz, e0.funs, e0.frf, e0.hok, e0.bare⟩
    obtain ⟨t, ht, hq⟩ := hbody Aw outer s H vs it more Q E [(b.heap.objs.size, go)] (rw2.deeper _) hsp
    have I1 : Inv (gcxOf P w K mg base N qual scope f cdv Aw outer s H E []) [] (start N vs) H b := inv_startG S rw2.hd e0w hlen rv x
    have kp2 : ∀ y o, b.heap.get? y = some o → b2.heap.get? y = some o := fun y o e => kp2' y o (Heap.get?_push_of_some _ e)
    have I2 : Inv (gcxOf P w K mg base N qual scope f cdv Aw outer s H E []) [] (start N vs) H b2 := I1.call' (ch := []) (os2.trans os1.symm) (Un.kept kp2) (I1.hok.kept kp2) ba2 fun y z => absurd z (by simp)
    have zy2 : ∀ z ∈ Z, b.heap.objs.size < z := fun z hz => by
      have q : (b.heap.push go).objs.size ≤ z := zy z hz
      rw [Heap.size_push] at q
      exact q
    have hea : b2.heap.get? b.heap.objs.size = some go := kp2' b.heap.objs.size go pushed
    have noc : ∀ v, go.data ≠ .cell v := fun v q => by rw [gd] at q; cases q
    have young : ∀ y, b.heap.objs.size ≤ y → H y = none ∧ y ≠ s.heap.objs.size ∧ y ∉ frs outer ∧ s.heap.objs.size ≤ y ∧ ∀ n c, (cellsFrom (s.heap.objs.size + 1) scope.names []).lookup n = some c → c ≠ y := fun y hy =>
      ⟨I1.hok.fresh hy, Nat.ne_of_gt (Nat.lt_of_lt_of_le lt1 hy), I1.nofs hy, Nat.le_trans sz1 hy, fun n c e z => by
        obtain ⟨v, ob, ho, _⟩ := I1.cell n c e
        have q := Heap.lt_size ho
        rw [z] at q
        exact absurd (Nat.lt_of_lt_of_le q hy) (Nat.lt_irrefl _)⟩
    obtain ⟨zo1, e1, h1o⟩ := zo_of zo
    have inZ : ∀ p ∈ zo1, p.1 ∈ Z := fun p hp => by rw [← e1]; exact List.mem_map_of_mem hp
    have aptZ : AZ (gcxOf P w K mg base N qual scope f cdv Aw outer s H E [(b.heap.objs.size, go)]) Z := ⟨fun p hp hm => by
      rw [List.mem_singleton.mp hp] at hm
      exact absurd (zy2 _ hm) (Nat.lt_irrefl _), fun z hz => by
      obtain ⟨_, y2, _, y4, y5⟩ := young z (Nat.le_of_lt (zy2 z hz))
      exact ⟨y4, y2, y5⟩⟩
    have J0 : IZ (gcxOf P w K mg base N qual scope f cdv Aw outer s H E [(b.heap.objs.size, go)]) Z G [] b2 (start N vs) H b2 := by
      refine ⟨g0, zo1, e1, fun p hp => (h1o p hp).1, Inv.pinnedG I2 fun p hp => ?_⟩
      rcases List.mem_append.mp hp with z | z
      · rw [List.mem_singleton.mp z]
        obtain ⟨y1, y2, y3, _, _⟩ := young b.heap.objs.size (Nat.le_refl _)
        exact ⟨hea, y1, y2, y3, noc⟩
      · obtain ⟨y1, y2, y3, _, _⟩ := young p.1 (Nat.le_of_lt (zy2 _ (inZ p z)))
        exact ⟨(h1o p z).1, y1, y2, y3, (h1o p z).2⟩
    have after : ∀ {ys : List V} {s0 s1 : Shared} {σ' : L2.St} {H' : Hp}, IZ (gcxOf P w K mg base N qual scope f cdv Aw outer s H E [(b.heap.objs.size, go)]) Z G ys s0 σ' H' s1 → StandsZ P w outer H s Z H' s0 s1 ∧ s1.heap.IsGen b.heap.objs.size b.gens.size ∧ s1.heap.NoLimit := fun {ys s0 s1 σ' H'} hI => by
      obtain ⟨_, zo, e, h0, J⟩ := hI
      refine ⟨⟨J.os, J.bare, J.base, J.hok, fun z hz => ?_⟩, isg _ (J.pin (b.heap.objs.size, go) (List.mem_append_left _ (List.mem_singleton.mpr rfl))).1, J.nolimit⟩
      rw [← e] at hz
      obtain ⟨p, hp, rfl⟩ := List.mem_map.mp hz
      obtain ⟨q1, q2, _⟩ := J.pin p (List.mem_append_right _ hp)
      exact ⟨q2, q1.trans (h0 p hp).symm⟩
    refine seg_func (seg_imp (R := fun n s0 r s1 => match r with
        | .ok (.ret u) => u = .none ∧ ∃ ys σ' H', n + ys.length = sizeLine ∧ IZ (gcxOf P w K mg base N qual scope f cdv Aw outer s H E [(b.heap.objs.size, go)]) Z G ys s0 σ' H' s1 ∧ Q ys H'
        | .ok _ => False
        | .error e => CX P w outer H s E e s1 ∧ ∀ p ∈ [(b.heap.objs.size, go)], s1.heap.get? p.1 = some p.2)
      (Y := PZ (gcxOf P w K mg base N qual scope f cdv Aw outer s H E [(b.heap.objs.size, go)]) Z ⟨it, more, G⟩) (fun n s0 r s1 hR => ?_) (fun n s0 v s1 kap kap' hkk hY => ?_) sizeLine ?_)
    · cases r with
      | error e => exact .inr ⟨e, rfl, hR.1, isg _ (hR.2 (b.heap.objs.size, go) (List.mem_singleton.mpr rfl))⟩
      | ok fl =>
        cases fl with
        | ret u =>
          obtain ⟨rfl, ys, σ', H', hn, hI, hQ⟩ := hR
          exact .inl ⟨.inl rfl, H', ys, hn, (after hI).1, hI.1, hQ⟩
        | next => exact False.elim hR
        | brk => exact False.elim hR
        | cont => exact False.elim hR
    · obtain ⟨ys, x1, σ', H', hn, rx, hI, hit, hm⟩ := hY
      obtain ⟨q1, q2, q3⟩ := after hI
      exact ⟨H', ys, x1, hn, rx, q1, q3, q2, hI.1, hit, fun m1 d hd hg => hkk _ _ (hm m1 d hd hg)⟩
    · refine ht.go (D := { nx := fun ys _ H' => Q ys H' }) ⟨aptZ, over_func, rfl, rfl, rfl⟩ (Nat.add_zero _) ⟨fun n ys s0 s1 fl hn hs => ?_, fun n s0 e s1 hx => ?_⟩ J0 (hq G)
      · cases fl with
        | next =>
          obtain ⟨σ', H', hI, hQ⟩ := hs
          exact seg_end (.ok (.ret .none)) ⟨rfl, ys, σ', H', hn, hI, hQ⟩
        | brk => obtain ⟨_, _, _, q⟩ := hs; exact False.elim q
        | cont => obtain ⟨_, _, _, q⟩ := hs; exact False.elim q
        | ret u => exact False.elim hs
      · refine seg_wrap ?_
        rw [over_func]
        exact wpAny_mono (show wpAny (model P w) (Aw.deeper (envOfC qual scope s.heap.objs.size f cdv)) (leaving (envOfC qual scope s.heap.objs.size f cdv) e) (fun _ d => CX P w outer H s E e d ∧ ∀ p ∈ [(b.heap.objs.size, go)], d.heap.get? p.1 = some p.2) (fun _ _ => False) s1 from hx) (fun _ d q => seg_end (.error e) q) fun _ _ q => q.elim
  exact main _ _ _ _ rfl rfl rfl fun h => Heap.get?_push_size _ rfl
end L2
set_option maxHeartbeats 1000000
namespace L2
open PySem PySem.Spec PyProof.Rows GenW
section
variable {X : Cx} {k : Nat} {f : Addr} {fd : FuncData} {ps : List PySem.Str} {sp : SpZ} {x : PySem.Str} {p pos cpos : Pos}
theorem next_z {P : Program} {w : World} {outer : List Env} {H : Hp} {sc s : Shared} {it : List V → V → Hp → Prop} {a : Addr} {g : Nat} {cd : Code} {A : Around} {Q : Option Value → Shared → Prop} {E : Value → Shared → Prop} (room : Room (k + 2) A) (hfr : A.frames = some outer)
    (h : FreshZ P w k outer H sc it false (fun _ _ => False) (fun _ _ _ => False) a g cd s)
    (hQ : ∀ v x H' s1, RelV x v → s1.os = sc.os → AllBare s1.gens → Un (frs outer) [] H H' sc.heap s1.heap → HOk P w H' s1.heap → it [] x H' → Q (some v) s1) : wpAny (model P w) A (pyNext (.ref a)) Q E s := by
  have sg := h.wk A.in1 [] (fun _ _ => True) (s.setGen g .running) (room.in1.mono (by omega)) hfr (fun z hz => absurd hz (by simp)) (fun _ _ e => e) (fun z hz => absurd hz (by simp)) h.os (allBare_setGen h.bare rfl) trivial
  have goes : (GenState.fresh cd).Goes (model P w) A.in1 (fun n s₀ r s₁ => ((r = .ok (.ret .none) ∨ r = .ok .next) ∧ False) ∨ ∃ e, r = .error e ∧ False)
      (ItemZ P w outer H sc [] a g ⟨it, false, fun _ _ => True⟩) sizeLine (.send .none) (s.setGen g .running) := by
    refine ⟨rfl, seg_imp (fun n s₀ r s₁ hr => ?_) (fun _ _ _ _ _ _ hk hy => ?_) _ sg⟩
    · rcases hr with ⟨_, _, _, _, _, _, z⟩ | ⟨e, _, z, _⟩
      · exact z.elim
      · obtain ⟨_, _, _, _, _, _, _, _, _, _, _, _, z⟩ := z
        exact z.elim
    · obtain ⟨H', ys, x, q1, q2, q3, q4, q5, q6, q7, q8⟩ := hy
      exact ⟨H', ys, x, q1, q2, q3, q4, q5, q6, q7, fun hm => absurd hm (by simp)⟩
  refine next_genG (F := fun _ _ _ => False) (Er := fun _ _ => False) room.hd h.nl (by have := room.dp; omega) h.gen h.at_ goes (fun v s₁ gs' hb hv => ?_) (fun s₁ z => z.elim) fun e s₁ z => z.elim
  obtain ⟨H', ys, x, q1, q2, q3, q4, q5, q6, q7, q8⟩ := hv
  have sl0 : 0 < sizeLine := by rw [sizeLine_eq]; decide
  have z0 : ys = [] := List.length_eq_zero_iff.mp (by omega)
  subst z0
  exact hQ v x H' _ q2 q3.os (allBare_setGen q3.bare hb) q3.un q3.ok q7
def tForZ (sp : SpZ) (t : TA) (g : TG) (tb : TS) : TS := fun D σ H => t σ H fun vs H1 => sp vs H1 (fun ys v H2 => ys = [] → g v σ H2 fun σ3 H3 => tb { D with nx := fun _ _ => False, ct := fun _ _ => False, bk := D.nx } σ3 H3) false (fun _ _ => False) (fun _ _ _ => False)
theorem ps_forZ {tg e : Expr} {es : List Expr} {body : List Stmt} {t : TA} {g : TG} {tb : TS} (hp : PassesOwn (model X.prog X.w) X.A X.env X.xe) (F : GFnZ X.prog X.w X.K X.mg X.base k f fd ps sp) (hr : Room (k + 2) X.A) (hg : Gl X x) (hm : X.mg x = some (.ref f)) (hk : PySem.W.keepIn X.K (.ref f) = true) (hb : Binds X.K fd ps [])
    (ha : PA X (e :: es) t) (hgt : PG X tg g) (hbd : PSs X body tb) (hdb : (x == ("__debug__" : PySem.Str)) = false := by decide) (he : starEach (e :: es) X.env = (false, eval e X.env) :: starEach es X.env := by rfl) (hpl : (backTo cpos (starEach es X.env)).any (·.1) = false := by rfl)
    (htg : ∀ a v, letOwnedTupleGo tg a v = pure () := by intros; rfl) (hs : ∀ y, foldedSetIterable (.Call (.Name x p) (e :: es) [] cpos) X.env y = pure y := by intro _; rfl) : PS X (.For tg (.Call (.Name x p) (e :: es) [] cpos) body [] pos) (tForZ sp t g tb) := by
  refine ⟨fun pins s σ H D I h => ?_⟩
  refine wpAny_For ?_ hs
  refine wpAny_Call_Name_kw (ld_glob I hg hm ?_ hdb)
  refine PySem.W.callWith_K (h₀ := X.base) I.ok.mod.kin hk (thn (ha.run cpos pins s σ H _ I h) fun us s1 ⟨vs, H1, I1, r, hsp⟩ => ⟨I1.kIn, ?_⟩) he hpl
  have hl2 : us.length = ps.length := by rw [← r.length]; exact F.len _ _ _ _ _ _ hsp
  have hb2 := hb s1 us I1.kIn (by simpa using hl2)
  rw [List.append_nil] at hb2
  refine wpAny_call (codeAny_mono (F.run X.A X.stack s1 H1 ⟨us, []⟩ us vs _ _ _ _ (hr.mono (by omega)) I1.env0 hb2 r hsp) fun r2 s2 hq => ?_)
  cases r2 with
  | error e => exact False.elim hq
  | ok fl =>
    cases fl with
    | next => exact False.elim hq
    | brk => exact False.elim hq
    | cont => exact False.elim hq
    | ret u =>
      obtain ⟨a, gn, cd, rfl, fz⟩ := hq
      refine wpAny_pyIter_gen fz.gen ?_
      refine codeAny_forLoop_any (fun n b => b = s2) (fun n b hbeq => ?_) 0 rfl
      subst hbeq
      refine wpAny_passesOwn hp (next_z hr I1.ok.frames fz fun v y H2 b1 rv os1 ba1 un1 ok1 hit => ?_)
      have I2 : Inv X pins σ H2 b1 := I1.call' (ch := []) (os1) un1 ok1 ba1 fun y z => absurd z (by simp)
      show wpAny _ _ (letOwnedTupleGo tg (Value.ref a) v) _ _ _
      rw [htg]
      refine wpAny_pure (wpAny_passesOwn hp (thn (hgt.run pins b1 σ H2 y v _ I2 rv (hit rfl)) fun _ b3 ⟨σ3, H3, I3, q3⟩ => ?_))
      refine wpAny_passesOwn hp (thn (hbd.run pins b3 σ3 H3 _ I3 q3) fun fl b4 q4 => ?_)
      cases fl with
      | next => obtain ⟨_, _, _, z⟩ := q4; exact z.elim
      | cont => obtain ⟨_, _, _, z⟩ := q4; exact z.elim
      | brk => exact q4
      | ret v => exact q4
end
end L2
namespace DL
open PySem PySem.Spec PyProof.Rows L2
open PySem.W (Frag)
structure DZE where
  nx : List D → S → Prop
  bk : List D → S → Prop := fun _ _ => False
  ct : List D → S → Prop := fun _ _ => False
structure DAsk where
  it : List D → D → Prop
  more : Bool
abbrev DZS := DZE → DAsk → List D → S → Prop
abbrev DZE.at (E : DZE) (es : List D) : DEnds := { nx := E.nx es, rt := fun _ _ => False, bk := E.bk es, ct := E.ct es }
structure FitsZ (c : C) (DD : DZE) (D : ZEnds) : Prop where
  nx : ∀ s σ H ys es, Rep c s σ H → RlA c.K (c.hid s.X H) ys es → DD.nx es s → D.nx ys σ H
  bk : ∀ s σ H ys es, Rep c s σ H → RlA c.K (c.hid s.X H) ys es → DD.bk es s → D.bk ys σ H
  ct : ∀ s σ H ys es, Rep c s σ H → RlA c.K (c.hid s.X H) ys es → DD.ct es s → D.ct ys σ H
structure FitsA (c : C) (DA : DAsk) (L : Asks) : Prop where
  it : ∀ s σ H ys es x d, Rep c s σ H → RlA c.K (c.hid s.X H) ys es → Rl c.K (c.hid s.X H) x d → DA.it es d → L.it ys x H
  more : L.more = DA.more
def LZn (c : C) (t : DZS) : TZn := fun D L ys σ H => ∃ s es DD DA, Rep c s σ H ∧ RlA c.K (c.hid s.X H) ys es ∧ t DD DA es s ∧ FitsZ c DD D ∧ FitsA c DA L
abbrev dzPl (t : DS) : DZS := fun DD _ es s => t (DD.at es) s
abbrev dzNext : DZS := fun DD _ es s => DD.nx es s
abbrev dzSeq (t u : DZS) : DZS := fun DD DA es s => t { DD with nx := u DD DA } DA es s
abbrev dzYield (t : DE) : DZS := fun DD DA es s => es.length < lim ∧ t s fun d k => DA.it es d ∧ (DA.more = true → DD.nx (es ++ [d]) (s.at k))
abbrev dzIf (tt : DT) (t u : DZS) : DZS := fun DD DA es s => tt s fun b k => if b = true then t DD DA es (s.at k) else u DD DA es (s.at k)
abbrev dzWhile (tt : DT) (tb : DZS) : DZS := fun DD DA es s => ∃ Inv : Nat → List D → S → Prop, (∃ m, Inv m es s) ∧ ∀ m es' s', Inv m es' s' → tt s' fun b k =>
  if b = true then tb { nx := fun es2 s2 => ∃ m', m' < m ∧ Inv m' es2 s2, ct := fun es2 s2 => ∃ m', m' < m ∧ Inv m' es2 s2, bk := DD.nx } DA es' (s'.at k) else DD.nx es' (s'.at k)
section
variable {X : Cx} {c : C} {pos : Pos}
theorem zd_plain {st : Stmt} {t : DS} (h : PS X st (LS c t)) : WZ X (exec st X.env) (LZn c (dzPl t)) :=
  (wz_ps h).weak fun D L ys σ H ⟨s, es, DD, DA, rp, er, q, f, _⟩ => ⟨s, DD.at es, rp, q, ⟨fun s' σ' H' r a q => f.nx s' σ' H' ys es r (er.mono a) q, fun s' σ' H' r a q => f.bk s' σ' H' ys es r (er.mono a) q, fun s' σ' H' r a q => f.ct s' σ' H' ys es r (er.mono a) q, fun _ _ _ _ _ _ z => z.elim⟩⟩
theorem zd_nil : WZ X (execs [] X.env) (LZn c dzNext) := wz_nil.weak fun D L ys σ H ⟨s, es, DD, DA, rp, er, q, f, _⟩ => f.nx s σ H ys es rp er q
theorem zd_cons {st : Stmt} {r : List Stmt} {t u : DZS} (h1 : WZ X (exec st X.env) (LZn c t)) (h2 : WZ X (execs r X.env) (LZn c u)) : WZ X (execs (st :: r) X.env) (LZn c (dzSeq t u)) :=
  (wz_cons h1 h2).weak fun D L ys σ H ⟨s, es, DD, DA, rp, er, q, f, g⟩ => ⟨s, es, { DD with nx := u DD DA }, DA, rp, er, q, ⟨fun s' σ' H' ys' es' r' e' q' => ⟨s', es', DD, DA, r', e', q', f, g⟩, f.bk, f.ct⟩, g⟩
theorem zd_one {st : Stmt} {t : DZS} (h1 : WZ X (exec st X.env) (LZn c t)) : WZ X (execs [st] X.env) (LZn c t) :=
  (zd_cons h1 zd_nil).weak fun D L ys σ H ⟨s, es, DD, DA, rp, er, q, f, g⟩ => ⟨s, es, DD, DA, rp, er, q, f, g⟩
theorem zd_yield {e : Expr} {yp : Pos} {t : DE} (he : PE X e (LE c t)) (hco : X.env.scope.isCoroutine = false := by rfl) (hi : interactive X.env = false := by rfl) : WZ X (exec (.Expr (.Yield (some e) yp) pos) X.env) (LZn c (dzYield t)) :=
  (wz_yield he hco hi).weak fun D L ys σ H ⟨s, es, DD, DA, rp, er, ⟨hl, q⟩, f, g⟩ => ⟨by rw [er.len]; exact lim_lt (Nat.le_of_lt hl), s, _, rp, q, fun d k ⟨h1, h2⟩ v H1 r1 a1 e1 => ⟨g.it _ σ H1 ys es v d r1 (er.mono a1.sub) e1 h1, fun hm => f.nx _ σ H1 _ _ r1 ((er.mono a1.sub).app (.cons e1 .nil)) (h2 (g.more ▸ hm))⟩⟩
theorem zd_if {t : Expr} {a b : List Stmt} {tt : DT} {ta tb : DZS} (ht : PT X t (LT c tt)) (ha : WZ X (execs a X.env) (LZn c ta)) (hb : WZ X (execs b X.env) (LZn c tb)) : WZ X (exec (.If t a b pos) X.env) (LZn c (dzIf tt ta tb)) :=
  (wz_if ht ha hb).weak fun D L ys σ H ⟨s, es, DD, DA, rp, er, q, f, g⟩ => ⟨s, _, rp, q, fun x k h H1 r1 a1 => by
    cases x with
    | true => exact ⟨s.at k, es, DD, DA, r1, er.mono a1.sub, h, f, g⟩
    | false => exact ⟨s.at k, es, DD, DA, r1, er.mono a1.sub, h, f, g⟩⟩
theorem zd_while {t : Expr} {body : List Stmt} {tt : DT} {tb : DZS} (hp : PassesOwn (model X.prog X.w) X.A X.env X.xe) (ht : PT X t (LT c tt)) (hb : WZ X (execs body X.env) (LZn c tb)) : WZ X (exec (.While t body [] pos) X.env) (LZn c (dzWhile tt tb)) :=
  (wz_while hp ht hb).weak fun D L ys σ H ⟨s, es, DD, DA, rp, er, ⟨IV, ⟨m0, i0⟩, turn⟩, f, g⟩ => by
    refine ⟨fun m ys' σ' H' => ∃ s' es', IV m es' s' ∧ Rep c s' σ' H' ∧ RlA c.K (c.hid s'.X H') ys' es', ⟨m0, s, es, i0, rp, er⟩, ?_⟩
    rintro m ys' σ' H' ⟨s', es', hI, rp', er'⟩
    refine ⟨s', _, rp', turn m es' s' hI, fun b k h H1 r1 a1 => ?_⟩
    have er1 := er'.mono a1.sub
    cases b with
    | true =>
      refine iteT ⟨s'.at k, es', _, DA, r1, er1, h, ⟨fun s4 σ4 H4 ys4 es4 r4 e4 ⟨m', hm, h4⟩ => ⟨m', hm, s4, es4, h4, r4, e4⟩, fun s4 σ4 H4 ys4 es4 r4 e4 h4 => f.nx s4 σ4 H4 ys4 es4 r4 e4 h4, fun s4 σ4 H4 ys4 es4 r4 e4 ⟨m', hm, h4⟩ => ⟨m', hm, s4, es4, h4, r4, e4⟩⟩, g⟩
    | false =>
      exact iteF (f.nx (s'.at k) σ' H1 ys' es' r1 er1 h)
end
abbrev DSpZ := List D → DAsk → (List D → Prop) → Prop
def spDZ (K : Frag) (sp : DSpZ) : SpZ := fun vs H it more Q _ => ∃ (X0 : List Addr) (ds : List D) (DA : DAsk) (R : List D → Prop), Ahd K none X0 H 0 vs ds ∧ sp ds DA R ∧ more = DA.more ∧
  (∀ es d, DA.it es d → ∀ ys x H', Aft K none X0 H H' 0 → RlA K (wo H' X0) ys es → Rl K (wo H' X0) x d → it ys x H') ∧ ∀ es, R es → ∀ ys H', Aft K none X0 H H' 0 → RlA K (wo H' X0) ys es → Q ys H'
structure CalZ (P : Program) (w : World) (K : Frag) (mg : PySem.Str → Option Value) (base : Heap) (k : Nat) (x : PySem.Str) (sp : DSpZ) : Prop where
  ex : ∃ f fd ps, GFnZ P w K mg base k f fd ps (spDZ K sp) ∧ mg x = some (.ref f) ∧ PySem.W.keepIn K (.ref f) = true ∧ Binds K fd ps []
section
variable {P : Program} {w : World} {K : Frag} {mg : PySem.Str → Option Value} {base : Heap}
theorem okDZb {x qual : PySem.Str} {st : Stmt} {f : Addr} {fd : FuncData} {N ps : List PySem.Str} {k : Nat} {sp : DSpZ} (F : Fun K x qual st f fd) (Sc : GScope N ps (defScope st)) (ow : List Nat)
    (len : ∀ ds DA R, sp ds DA R → ds.length = ps.length)
    (body : ∃ t : DZS, (∀ (cdv : Value) (A : Around) (outer : List Env) (s : Shared) (H : Hp) (E : XK) (pn : List (Addr × Obj)) (X0 : List Addr), Room k (A.deeper (envOfC qual (defScope st) s.heap.objs.size f cdv)) →
        WZ (gcxOf P w K mg base N qual (defScope st) f cdv A outer s H E pn) (execs (defBody st) (gcxOf P w K mg base N qual (defScope st) f cdv A outer s H E pn).env) (LZn ⟨K, none, X0, H, ow⟩ t)) ∧
      ∀ X ds DA R, sp ds DA R → t { nx := fun es _ => R es } DA [] ⟨X, init false N.length ds, 0⟩) :
    GFnZ P w K mg base (k + 1) f fd ps (spDZ K sp) := by
  obtain ⟨t, hbd, hr⟩ := body
  have lens : ∀ vs H it more Q E, spDZ K sp vs H it more Q E → vs.length = ps.length := fun vs H it more Q E ⟨X0, ds, DA, R, a, h2, _⟩ => by
    rw [a.args.len]
    exact len ds DA R h2
  obtain ⟨oc, od, kV, doc, pm, an, cdv, ct, osl, rfl, lk, hcd⟩ := F.ex
  refine gfnz_of lk hcd Sc lens fun A outer s H vs it more Q E pn room h => ?_
  have hl := lens _ _ _ _ _ _ h
  obtain ⟨X0, ds, DA, R, a, h2, h3, h4, h5⟩ := h
  have hpl : ps.length ≤ N.length := by have := congrArg List.length Sc.pre; rw [List.length_take] at this; omega
  have aft : ∀ {H' k}, Fin ⟨K, none, X0, H, ow⟩ H' k → Aft K none X0 H H' 0 := fun fi => ⟨fi.sub, fun b hb => fi.old b hb (a.xm b hb) (a.xs b hb), trivial, fi.tb⟩
  refine ⟨_, hbd cdv A outer s H E pn X0 room, fun G => ⟨⟨X0, init false N.length ds, 0⟩, [], { nx := fun es _ => R es }, DA, init_rep (c := ⟨K, none, X0, H, ow⟩) rfl ⟨rfl, rfl⟩ a (by omega), .nil, hr X0 ds DA R h2, ?_, ?_⟩⟩
  · exact ⟨fun s' σ' H' ys es r' e' q => h5 es q ys H' (aft r'.fin) (e'.mono r'.sub0), fun _ _ _ _ _ _ _ z => z.elim, fun _ _ _ _ _ _ _ z => z.elim⟩
  · exact ⟨fun s' σ' H' ys es x d r' e' ex q => h4 es d q ys x H' (aft r'.fin) (e'.mono r'.sub0) (ex.mono r'.sub0), h3⟩
end
abbrev dForZ (sp : DSpZ) (t : DA) (g : DG) (tb : DS) : DS := fun DD s => t s fun ds k => sp ds ⟨fun es d => es = [] → g d (s.at k) fun s3 => tb { DD with nx := fun _ => False, ct := fun _ => False, bk := DD.nx } s3, false⟩ fun _ => False
section
variable {X : Cx} {c : C} {k j : Nat} {x : PySem.Str} {sp : DSpZ} {p pos cpos : Pos}
theorem psd_forZ (hp : PassesOwn (model X.prog X.w) X.A X.env X.xe) (hK : c.K = X.K) (F : CalZ X.prog X.w X.K X.mg X.base k x sp) (hr : Room j X.A) (hk : k + 2 ≤ j) {tg e : Expr} {es : List Expr} {body : List Stmt} {t : DA} {g : DG} {tb : DS} {ts : List Nat} (ha : PA X (e :: es) (LA c t)) (hgt : PG X tg (LG c ts g)) (hbd : PSs X body (LS c tb))
    (hg : Gl X x := by rfl) (hdb : (x == ("__debug__" : PySem.Str)) = false := by decide) (he : starEach (e :: es) X.env = (false, eval e X.env) :: starEach es X.env := by rfl) (hpl : (backTo cpos (starEach es X.env)).any (·.1) = false := by rfl)
    (htg : ∀ a v, letOwnedTupleGo tg a v = pure () := by intros; rfl) (hs : ∀ y, foldedSetIterable (.Call (.Name x p) (e :: es) [] cpos) X.env y = pure y := by intro _; rfl) : PS X (.For tg (.Call (.Name x p) (e :: es) [] cpos) body [] pos) (LS c (dForZ sp t g tb)) := by
  obtain ⟨f, fd, ps, G, hm, kp, b⟩ := F.ex
  refine (ps_forZ hp G (hr.mono hk) hg hm kp b ha hgt hbd hdb he hpl htg hs).weak fun D σ H ⟨s, DD, rp, q, fi⟩ => ⟨s, _, rp, q, fun ds k1 h1 vs H1 r1 a1 e1 => ?_⟩
  refine ⟨Ml c.M ++ s.X, ds, _, _, ⟨fun a _ => by simp [Ml], r1.allHid, trivial, hK ▸ e1, r1.allTb⟩, h1, rfl, fun es d hR ys y H' af er ey hy => ?_, fun _ z => z.elim⟩
  subst hy
  have he0 : es = [] := by
    have := er.len
    exact List.length_eq_zero_iff.mp (by simpa using this.symm)
  have z := Rep.after (s := s.at k1) r1 ⟨af.sub, af.old, af.m, af.tb⟩
  refine ⟨s.at k1, _, d, z.1, hK ▸ ey, hR he0, fun s3 q3 σ3 H3 r3 a3 x3 _ _ => ?_⟩
  have ad : Adv' c s.X H s3.X H3 := (a1.trans z.2).sub.trans (x3 ▸ a3.sub)
  exact ⟨s3, _, r3, q3, ⟨fun _ _ _ _ _ z => z.elim, fun s4 σ4 H4 r4 a4 h4 => fi.nx s4 σ4 H4 r4 (ad.trans a4) h4, fun _ _ _ _ _ z => z.elim, fi.rt⟩⟩
end
end DL
set_option maxHeartbeats 1000000
namespace BW
open PySem L2 DL
def spZ_shortest_words (BC : Addr) : DSpZ := fun ds DA _ => ∃ T d w e, ds = [bnd BC T, d] ∧ Tab T ∧ isW d w ∧ w.length ≤ 16 ∧ Wd T.length w ∧ (spS T (row T w.reverse)).length ≤ 900000 ∧ DA.more = false ∧ (spS T (row T w.reverse)).head? = some e ∧ DA.it [] (tI e)
abbrev tZ_sw2 (BC : Addr) : DZS := (dzPl (dFor (iRvT (dVar 5)) (dgN 6) (dApp 2 (dTup (dCons (dTup (dStar (dVar 3) (dCons (dVar 6) dNil))) (dCons (dCall (sp_pressed BC) (dCons (dVar 0) (dCons (dVar 4) (dCons (dVar 6) dNil)))) dNil))))))
abbrev tZ_sw1 (BC : Addr) : DZS := (dzSeq (dzPl (dPop 2 (dgTup 2 (dgCons (dgN 3) (dgCons (dgN 4) dgNil)))))
  (dzSeq (dzPl (dSet 5 (dCall sp_fallen (dCons (dVar 4) dNil))))
  (dzSeq (dzIf (dNot (dTru (dVar 5))) (dzYield (dVar 3)) dzNext)
  (tZ_sw2 BC))))
abbrev tZ_shortest_words (BC : Addr) : DZS := (dzSeq (dzPl (dSetO 2 (dLs (dCons (dTup (dCons (dTup dNil) (dCons (dCall (sp_row_to_spell BC) (dCons (dVar 0) (dCons (dVar 1) dNil))) dNil))) dNil))))
  (dzWhile (dTruN 2) (tZ_sw1 BC)))
section
variable {BC : Addr} {T : Mat} {d : D} {f z : List Int} {X : List Addr} {p : Addr} {k : Nat} {x3 x4 x5 x6 : Sl} {DD : DZE} {DA : DAsk} {ws : List PW}
theorem rZ_sw1 (ht : Tab T) (hz : Wd T.length z) (hzl : z.length ≤ 16) (hf : f.length ≤ 1000) (hw : ws.length ≤ 900000) (hm : DA.more = false)
    (fin1 : fall (row T z) = [] → DA.it [] (tI f))
    (fin2 : fall (row T z) ≠ [] → ∀ x3 x4 x5 x6, DD.nx [] ⟨X, slG BC T d p ((ws ++ (fall (row T z)).reverse.map (kidW T f z)).map (encW T)) x3 x4 x5 x6, k⟩) :
    tZ_sw1 BC DD DA [] ⟨X, slG BC T d p ((ws ++ [(f, z)]).map (encW T)) x3 x4 x5 x6, k⟩ := by
  have lr := row_length T z
  have hT := ht.hi
  rw [List.map_append]
  refine ⟨p, ws.map (encW T), encW T (f, z), rfl, rfl, ?_⟩
  refine ⟨rfl, ?_⟩
  refine ⟨_, rfl, row T z, rfl, by omega, ?_⟩
  refine ⟨_, rfl, _, rfl, ?_⟩
  by_cases e : fall (row T z) = []
  · have e2 : (((fall (row T z)).map D.int).isEmpty) = true := by rw [e]; rfl
    rw [e2]
    refine iteT ⟨by show 0 < lim; decide, _, rfl, fin1 e, fun h => ?_⟩
    rw [hm] at h
    exact absurd h (by decide)
  · have e2 : (((fall (row T z)).map D.int).isEmpty) = false := by
      cases q : fall (row T z) with
      | nil => exact absurd q e
      | cons a l => rfl
    rw [e2]
    refine iteF ?_
    exact rG_sw2 (DD := { nx := DD.nx, bk := DD.bk, ct := DD.ct }) (es := []) ht hz hf hw fun y6 => fin2 e _ _ _ _
end
theorem rZ_shortest_words (BC : Addr) (X : List Addr) (ds : List D) (DA : DAsk) (R : List D → Prop) (h : spZ_shortest_words BC ds DA R) : tZ_shortest_words BC { nx := fun es _ => R es } DA [] (St0 false 7 ds X 0) := by
  obtain ⟨T, d, w, e0, rfl, ht, hw, hl, hwd, hb, hm, he, hit⟩ := h
  have lr : w.reverse.length = w.length := List.length_reverse
  refine ⟨by show 0 ≤ lim; decide, ?_⟩
  refine ⟨_, rfl, _, rfl, T, d, w, rfl, ht, hw, hl, hwd, ?_⟩
  refine ⟨by show 2 ≤ lim; decide, by show 1 ≤ lim; decide, fun p hp => ?_⟩
  refine ⟨fun m es s' => ∃ (ws : List PW) (x3 x4 x5 x6 : Sl), s' = ⟨p :: X, slG BC T d p (ws.map (encW T)) x3 x4 x5 x6, 0⟩ ∧ es = [] ∧ m = mesW ws ∧ totW T ws = spS T (row T w.reverse) ∧ ∀ q ∈ ws, Wd T.length q.2 ∧ q.1.length + q.2.length ≤ 16, ⟨mesW [([], w.reverse)], [([], w.reverse)], .no, .no, .no, .no, rfl, rfl, rfl, ?_, ?_⟩, ?_⟩
  · rw [totW_one]; simp
  · intro q hq
    have := List.mem_singleton.mp hq
    subst this
    exact ⟨rev_ok hwd, by show 0 + w.reverse.length ≤ 16; omega⟩
  rintro m es' s' ⟨ws, x3, x4, x5, x6, rfl, rfl, rfl, e, hq⟩
  have l1 : (totW T ws).length ≤ 900000 := by rw [e]; exact hb
  have l2 := totW_len T ws
  refine ⟨ws.map (encW T), rfl, ?_⟩
  rcases List.eq_nil_or_concat ws with rfl | ⟨vs, q, ev⟩
  · exfalso
    rw [← e] at he
    exact absurd he (by show ¬ (([] : List (List Int)).head? = some e0); simp)
  · obtain ⟨f, z⟩ := q
    rw [List.concat_eq_append] at ev
    subst ev
    obtain ⟨wz, lz⟩ := hq (f, z) (by simp)
    have wz : Wd T.length z := wz
    have lz : f.length + z.length ≤ 16 := lz
    have ne : (!((vs ++ [(f, z)]).map (encW T)).isEmpty) = true := by
      rw [List.map_append]
      cases vs <;> rfl
    have lv : vs.length ≤ 900000 := by
      rw [List.length_append] at l2
      omega
    rw [totW_app] at e
    rw [ne]
    refine iteT ?_
    refine rZ_sw1 ht wz (by omega) (by omega) lv hm (fun ef => ?_) fun ef y3 y4 y5 y6 => ?_
    · rw [totW_end ht wz (by omega) ef] at e
      rw [← e] at he
      have q0 : f = e0 := Option.some.inj he
      rw [q0]
      exact hit
    · refine ⟨mesW (vs ++ (fall (row T z)).reverse.map (kidW T f z)), ?_, vs ++ (fall (row T z)).reverse.map (kidW T f z), y3, y4, y5, y6, rfl, rfl, rfl, ?_, ?_⟩
      · rw [mesW_app, mesW_app]
        have := mesW_kids ht (f := f) wz
        omega
      · rw [totW_app, totW_kids ht wz (by omega) ef]
        exact e
      · intro q h
        rcases List.mem_append.mp h with h | h
        · exact hq q (List.mem_append_left _ h)
        · obtain ⟨a, ha, rfl⟩ := List.mem_map.mp h
          obtain ⟨h1, h2, _⟩ := dnW_ok ht wz (List.mem_reverse.mp ha)
          refine ⟨h1, ?_⟩
          show (f ++ [a]).length + (dnW T z a).length ≤ 16
          rw [List.length_append, List.length_singleton]
          omega
end BW
set_option maxHeartbeats 1000000
namespace BW
open PySem L2 DL
theorem fall_in {T : Mat} (ht : Tab T) {x : List Int} (hx : Wd T.length x) (hl : x.length ≤ 59) {a : Int} (ha : a ∈ fall (row T x)) : a ∈ lw T x := by
  obtain ⟨z0, d1, d2, d3, d4, d5⟩ := fall_dn ht hx ha
  obtain ⟨i, rfl⟩ : ∃ i : Nat, a = (i : Int) + 1 := ⟨(a - 1).toNat, by omega⟩
  have hi : i < T.length := by omega
  have wa : Wd T.length (x ++ [(i : Int) + 1]) := wd_app hx (wd_one hi)
  have la : (x ++ [(i : Int) + 1]).length ≤ 60 := by rw [List.length_append, List.length_singleton]; omega
  obtain ⟨a1, a2, a3, a4⟩ := lw_row2 ht hx (by omega)
  obtain ⟨b1, b2, b3, b4⟩ := lw_row2 ht wa la
  have wv : Wd T.length (lw T (x ++ [(i : Int) + 1]) ++ [(i : Int) + 1]) := wd_app b2 (wd_one hi)
  have eq : row T (lw T (x ++ [(i : Int) + 1]) ++ [(i : Int) + 1]) = row T x := by
    have := row_app (z := [(i : Int) + 1]) b1
    rw [this, row_undo ht hi]
  have sz : Sh T (lw T (x ++ [(i : Int) + 1]) ++ [(i : Int) + 1]) := by
    obtain ⟨k, hk, _⟩ := LN.has hx
    obtain ⟨j, e1, e2, e3, e4⟩ := hk.step ht hx ha
    have lj : (lw T (x ++ [(i : Int) + 1])).length = j := (b4.cong b2 wa b1).uniq e2
    have := hk.cong hx wv eq.symm
    show LN T _ _
    rw [List.length_append, List.length_singleton, lj, ← e1]
    exact this
  exact tn_mem ht (matsumoto ht _ rfl wv a2 sz a4 (eq.trans a1.symm)) (List.mem_append_right _ (List.mem_singleton.mpr rfl))
theorem int_sub_len : ∀ {l z : List Int}, l.Nodup → (∀ x ∈ l, x ∈ z) → l.length ≤ z.length
  | [], z, _, _ => Nat.zero_le _
  | a :: l, z, nd, h => by
    have ha := h a List.mem_cons_self
    obtain ⟨n1, n2⟩ := List.nodup_cons.mp nd
    have ih := int_sub_len (z := z.erase a) n2 fun x hx => (List.mem_erase_of_ne fun e => n1 (by rw [← e]; exact hx)).mpr (h x (List.mem_cons_of_mem _ hx))
    rw [List.length_erase_of_mem ha] at ih
    have := List.length_pos_of_mem ha
    show l.length + 1 ≤ _
    omega
theorem fall_few {T : Mat} (ht : Tab T) {x : List Int} (hx : Wd T.length x) (hl : x.length ≤ 59) {k : Nat} (hk : LN T x k) : (fall (row T x)).length ≤ k := by
  have nd : (fall (row T x)).Nodup := (fall_asc (row T x)).imp fun {a b} h => by omega
  have h := int_sub_len nd fun a ha => fall_in ht hx hl ha
  rw [lw_len ht hx (by omega) hk] at h
  exact h
def wb : Nat → Nat
  | 0 => 1
  | k + 1 => min 6 (k + 1) * wb k
theorem wb_pos : ∀ k, 1 ≤ wb k
  | 0 => Nat.le_refl _
  | k + 1 => Nat.mul_pos (by omega) (wb_pos k)
theorem cnF_wb {T : Mat} (ht : Tab T) : ∀ (n k : Nat) {x : List Int}, Wd T.length x → x.length ≤ 59 → LN T x k → 0 ≤ cnF T n (row T x) ∧ cnF T n (row T x) ≤ ((wb k : Nat) : Int)
  | 0, k, x, _, _, _ => by
    refine ⟨by show (0 : Int) ≤ 1; decide, ?_⟩
    show (1 : Int) ≤ _
    have := wb_pos k
    omega
  | n + 1, k, x, hx, hl, hk => by
    show 0 ≤ (if fall (row T x) = [] then 1 else ((fall (row T x)).map fun a => cnF T n (press T (row T x) (ix a))).sum) ∧ (if fall (row T x) = [] then 1 else ((fall (row T x)).map fun a => cnF T n (press T (row T x) (ix a))).sum) ≤ ((wb k : Nat) : Int)
    have pk := wb_pos k
    by_cases e : fall (row T x) = []
    · rw [if_pos e]
      exact ⟨by decide, by omega⟩
    · rw [if_neg e]
      obtain ⟨a0, l0, e0⟩ := List.exists_cons_of_ne_nil e
      obtain ⟨j, ej, _, _, _⟩ := hk.step ht hx (a := a0) (by rw [e0]; exact List.mem_cons_self)
      subst ej
      have b := sum_bd (B := ((wb j : Nat) : Int)) (l := (fall (row T x)).map fun a => cnF T n (press T (row T x) (ix a))) fun y hy => by
        obtain ⟨a, ha, rfl⟩ := List.mem_map.mp hy
        obtain ⟨z, h1, h2, h3, _, _⟩ := fall_dn ht hx ha
        obtain ⟨j', ej', q2, q3, q4⟩ := hk.step ht hx ha
        have jj : j' = j := by omega
        subst jj
        rw [h3]
        have wz := wd_sub h1 hx
        refine cnF_wb ht n j' wz (by omega) ?_
        refine q2.cong (wd_app hx ?_) wz ?_
        · intro b hb
          rw [List.mem_singleton.mp hb]
          obtain ⟨_, _, _, _, h4, h5⟩ := fall_dn ht hx ha
          exact ⟨h4, h5⟩
        · rw [row_snoc]; exact h3
      rw [List.length_map] at b
      have f1 := fall_few ht hx hl hk
      have f2 := fall_length (row T x)
      rw [row_length] at f2
      have hi := ht.hi
      have f3 : (fall (row T x)).length ≤ min 6 (j + 1) := by omega
      refine ⟨b.1, Int.le_trans b.2 ?_⟩
      show _ ≤ ((min 6 (j + 1) * wb j : Nat) : Int)
      have : wb j * (fall (row T x)).length ≤ min 6 (j + 1) * wb j := by rw [Nat.mul_comm]; exact Nat.mul_le_mul_right _ f3
      exact_mod_cast this
theorem wb_mono : ∀ {j k : Nat}, j ≤ k → wb j ≤ wb k
  | j, 0, h => by
    have : j = 0 := by omega
    rw [this]; exact Nat.le_refl _
  | j, k + 1, h => by
    rcases Nat.lt_or_ge j (k + 1) with c | c
    · have := wb_mono (show j ≤ k by omega)
      show _ ≤ min 6 (k + 1) * wb k
      have : 1 * wb k ≤ min 6 (k + 1) * wb k := Nat.mul_le_mul_right _ (by omega)
      omega
    · have : j = k + 1 := by omega
      rw [this]; exact Nat.le_refl _
theorem sp9_len {T : Mat} (ht : Tab T) {w : List Int} (hw : Wd T.length w) (hl : w.length ≤ 9) : (spS T (row T w.reverse)).length ≤ 155520 := by
  obtain ⟨k, hk, h2⟩ := LN.has (wd_rev hw)
  rw [List.length_reverse] at h2
  have b := (cnF_wb ht 61 k (wd_rev hw) (by rw [List.length_reverse]; omega) hk).2
  have c := cn_len T (row T w.reverse)
  have m := wb_mono (show k ≤ 9 by omega)
  have e9 : wb 9 = 155520 := by decide
  have e : cn T (row T w.reverse) = cnF T 61 (row T w.reverse) := rfl
  omega
end BW
namespace DL
open PySem L2
end DL
set_option maxHeartbeats 1000000
namespace BW
open PySem L2 DL
open PySem.W (dataLe)
abbrev rv19 (T : Mat) (w : List Int) : List Int := row T w.reverse
theorem spS_pos {T : Mat} (ht : Tab T) {w : List Int} (hw : Wd T.length w) (hl : w.length ≤ 16) : 0 < (spS T (rv19 T w)).length := by
  obtain ⟨k, hk, h2⟩ := LN.has (wd_rev hw)
  rw [List.length_reverse] at h2
  exact (List.getElem?_eq_some_iff.mp (spS_head ht k (f := 60) (wd_rev hw) (by rw [List.length_reverse]; omega) hk (by omega))).1
section
variable {BC : Addr} {DD : DEnds} {T : Mat} {w L : List Int} {X : List Addr} {k : Nat} {x2 x3 x4 x5 x6 x7 x8 x9 x10 x11 : Sl}
theorem atI_us {us : List (List Int)} {j : Nat} {u : List Int} (h : us[j]? = some u) : atI (us.map tI) (j : Int) = some (tI u) := atI_nat (by rw [List.getElem?_map, h]; rfl)
theorem ne_tI {u : List Int} {Q : D → Prop} (q : Q (.bl false)) : oNe (tI u) (tI u) Q := by
  refine ⟨okE_tupI u, okE_tupI u, ?_⟩
  rw [eqv_tupI, decide_eq_true rfl]
  exact q
end
end BW
set_option maxHeartbeats 1000000
namespace BW
open PySem L2 DL
theorem okE_selfE {d : D} (h : d.okE = true) : PyData.eqv d.py d.py = true := SeqAt.eqv_refl _ (SeqAt.canLay_of_shaped (Bool.and_eq_true_iff.mp h).2)
theorem eqS {d : D} (h : d.okE = true) {Q : D → Prop} (q : Q (.bl true)) : oEq d d Q := by
  have e := okE_selfE h
  cases d <;> first
    | exact ⟨h, h, by rw [e]; exact q⟩
    | (show Q (.bl (decide _)); rw [decide_eq_true rfl]; exact q)
end BW
set_option maxHeartbeats 1000000
namespace BW
open PySem L2 DL
section
variable {BC : Addr} {T : Mat} {u v : List Int} {X : List Addr} {k : Nat} {x3 x4 : Sl} {DD : DEnds}
theorem okE_lIs (L : List (List Int)) : (D.lst (L.map tI)).okE = true := (okE_mat (f := tI) (fun r => plain_ints r) (fun r => by show PyData.canLayAll0 (pyA (r.map D.int)) = true; rw [py_ints, lay_ints]) (fun r => by show PyData.depthAll (pyA (r.map D.int)) + 1 = 1; rw [py_ints, depth_ints]) L).1
end
end BW
namespace DL
open PySem PySem.Spec PyProof.Rows L2
open PySem.W (Frag)
structure ShwE (d : D) : Prop where
  plain : d.plain = true
  shw : d.shw = true
  dep : d.py.depth ≤ 60
  lg : d.py.shown.length ≤ sizeLine
abbrev dRepE (t : DE) : DE := fun s Q => t s fun d k => (match d with | .lst _ => True | .tup _ => True | _ => False) ∧ ShwE d ∧ Q (.str d.py.shown) k
abbrev dLr1L (t : DE) : DA := fun s Q => t s fun d k => ∃ j, d = .int j ∧ 0 ≤ j ∧ j ≤ 1000000 ∧ Q (rngD 0 j.toNat) k
section
variable {X : Cx} {c : C} {p pos : Pos}
theorem pd_reprE (hK : c.K = X.K) (gu : X.A.guards = some []) {j : Nat} (hr : Room j X.A) (hm : X.mg "repr" = none) {e : Expr} {t : DE} (h : PE X e (LE c t)) (hg : Gl X "repr" := by rfl) (hs : starEach [e] X.env = (false, eval e X.env) :: starEach [] X.env := by rfl) (hp : (backTo pos (starEach [] X.env)).any (·.1) = false := by rfl) :
    PE X (.Call (.Name "repr" p) [e] [] pos) (LE c (dRepE t)) :=
  (pe_callB (call_reprD gu hr.units) hg hm (by first | exact PySem.boot_repr | rfl) (pa_cons h pa_nil hs) (he := hs) (hpl := hp)).weak fun σ H Q ⟨s, R, rp, q, f⟩ => ⟨s, _, rp, q, fun d k ⟨h1, h2, h3⟩ v H1 r1 a1 e1 => by
    obtain ⟨b1, b2, b3⟩ := shown_up d h2.plain h2.shw
    have fin := f _ k h3 (.str d.py.shown) H1 r1 a1 (.str _)
    have sub : Dp X.K H1 v d.py := (e1.mono (wo_sub _ _) |> fun z => hK ▸ z.dp d h2.plain)
    cases d with
    | lst xs =>
      obtain ⟨a, vs, rfl, _, _⟩ := e1.lstE
      exact ⟨a, _, rfl, sub, b2, b3, h2.dep, h2.lg, fin⟩
    | tup xs =>
      obtain ⟨a, vs, rfl, _, _⟩ := e1.tupE
      exact ⟨a, _, rfl, sub, b2, b3, h2.dep, h2.lg, fin⟩
    | _ => exact h1.elim⟩
theorem pdf_lr1L (hc : X.calm = true) (hm : X.mg "list" = none) (hr : X.mg "range" = none) {e : Expr} {t : DE} {p2 pos2 : Pos} (h : PE X e (LE c t)) (hg : Gl X "list" := by rfl) (hg2 : Gl X "range" := by rfl) (hs : starEach [e] X.env = (false, eval e X.env) :: starEach [] X.env := by rfl)
    (na : starEach [Expr.Call (.Name "range" p2) [e] [] pos2] X.env = (false, eval (Expr.Call (.Name "range" p2) [e] [] pos2) X.env) :: starEach [] X.env := by rfl) : PE X (.Call (.Name "list" p) [.Call (.Name "range" p2) [e] [] pos2] [] pos) (LF c (dLr1L t)) :=
  (pe_listRg hc hg hm (prg_1 hg2 hr h hs) na).weak fun σ H Q ⟨s, R, rp, q, f⟩ => ⟨s, _, rp, q, fun d k ⟨j, h1, h2, h3, h4⟩ v H1 r1 a1 e1 => by
    subst h1
    refine ⟨j, e1.intE, ⟨by decide, by decide, by omega, by omega, by omega⟩, fun q hq => f _ k h4 q _ (NewL.mk' r1 a1 (by have := @rng_rl c.K (c.hid s.X H1) 0 j; rwa [Int.sub_zero] at this) hq)⟩⟩
end
theorem piled_at {f : List Int → D} {n : Nat} : ∀ {L : List (List Int)}, (∀ u ∈ L, (f u).py.shown.length ≤ n) → piled (PyData.shownAll (pyA (L.map f))) ≤ (n + 2) * L.length
  | [], _ => Nat.zero_le _
  | u :: L, h => by
    have ih := piled_at (f := f) (n := n) (L := L) fun v hv => h v (List.mem_cons_of_mem _ hv)
    have h1 := h u List.mem_cons_self
    show piled ((f u).py.shown :: PyData.shownAll (pyA (L.map f))) ≤ _
    rw [piled_cons, List.length_cons, Nat.mul_add]
    omega
theorem piled_dig : ∀ {u : List Int}, (∀ a ∈ u, 1 ≤ a ∧ a ≤ 6) → piled (PyData.shownAll (pyA (u.map D.int))) ≤ 3 * u.length
  | [], _ => Nat.zero_le _
  | a :: u, h => by
    have ih := piled_dig (u := u) fun v hv => h v (List.mem_cons_of_mem _ hv)
    have h1 := h a List.mem_cons_self
    have e : (D.int a).py.shown.length = 1 := by
      rcases (by omega : a = 1 ∨ a = 2 ∨ a = 3 ∨ a = 4 ∨ a = 5 ∨ a = 6) with rfl | rfl | rfl | rfl | rfl | rfl <;> rfl
    show piled ((D.int a).py.shown :: PyData.shownAll (pyA (u.map D.int))) ≤ _
    rw [piled_cons, List.length_cons, e]
    omega
theorem tup_len {u : List Int} (h : ∀ a ∈ u, 1 ≤ a ∧ a ≤ 6) {n : Nat} (hn : u.length ≤ n) : (D.tup (u.map D.int)).py.shown.length ≤ 3 * n + 4 := by
  have h1 := tupleText_up (PyData.shownAll (pyA (u.map D.int)))
  have h2 := piled_dig h
  show (tupleText _).length ≤ _
  omega
theorem lsts_len {L : List (List Int)} {n m : Nat} (h : ∀ u ∈ L, (∀ a ∈ u, 1 ≤ a ∧ a ≤ 6) ∧ u.length ≤ n) (hm : L.length ≤ m) : (D.lst (L.map fun u => D.tup (u.map D.int))).py.shown.length ≤ (3 * n + 6) * m + 2 := by
  have h1 := listText_up (PyData.shownAll (pyA (L.map fun u => D.tup (u.map D.int))))
  have h2 : piled (PyData.shownAll (pyA (L.map fun u => D.tup (u.map D.int)))) ≤ (3 * n + 6) * L.length := piled_at (f := fun u => D.tup (u.map D.int)) (n := 3 * n + 4) (L := L) fun u hu => tup_len (h u hu).1 (h u hu).2
  have h3 : (3 * n + 6) * L.length ≤ (3 * n + 6) * m := Nat.mul_le_mul_left _ hm
  show (listText _).length ≤ _
  omega
end DL
set_option maxHeartbeats 1000000
namespace BW
open PySem L2 DL
abbrev t_a18 : DS := (dSet 3 (dCallM 1 sp__law_table (dCons (dC (.int 6)) dNil)))
abbrev t_b18 (BC : Addr) : DS := (dPar2 4 5 (dxD (dCall (sp_Bonds BC) (dCons (dVar 3) dNil)) (dxD (dCallM 1 sp__law_word (dCons (dVar 3) (dCons (dVar 2) dNil))) dxN)))
abbrev t_c18 : DS := (dSet 6 (dCall sp__law_turned_all (dCons (dVar 3) (dCons (dCall sp__law_least (dCons (dVar 3) (dCons (dVar 5) dNil))) dNil))))
abbrev t_d18 (BC : Addr) : DS := (dIfS (dTB (dOp oNe (dRepE (dListG0 (spG_shortest_words BC) (dCons (dVar 4) (dCons (dFr (dLstN 5)) dNil)))) (dRepE (dVar 6)))) (dRet (dC (.bl false))) dNext)
abbrev t_e18 (BC : Addr) : DS := (dIfS (dTB (dOp oNe (dRepr (dCall (sp_count_shortestP BC) (dCons (dVar 4) (dCons (dVar 5) dNil)))) (dRepr (dLenN 6)))) (dRet (dC (.bl false))) dNext)
abbrev t_f18 : DS := (dSet 7 (dFr (dLr1L (dLenN 6))))
abbrev t_g18 : DS := (dIfS (dTB (dOp oGt (dLenN 7) (dC (.int 20)))) (dSet 7 (dOp oAdd (dFr (dLs (dCons (dC (.int 0)) (dCons (dOp oSub (dLenN 6) (dC (.int 1))) dNil)))) (dFr (dLc (iR1 (dC (.int 8))) (dgN 11) dY (dCallM 1 sp__law_draw (dCons (dLenN 6) dNil)) [11])))) dNext)
abbrev t_h18a (BC : Addr) : DS := (dIfS (dTB (dOp oNe (dRepD (dCall (sp_word_at BC) (dCons (dVar 4) (dCons (dVar 5) (dCons (dVar 8) dNil))))) (dRepD (dIxN 6 (dVar 8))))) (dRet (dC (.bl false))) dNext)
abbrev t_h18b (BC : Addr) : DS := (dIfS (dTB (dOp oNe (dRepr (dCall (sp_word_numberP BC) (dCons (dVar 4) (dCons (dFr (dLstOf (dIxN 6 (dVar 8)))) dNil)))) (dRepr (dVar 8)))) (dRet (dC (.bl false))) dNext)
abbrev t_h18 (BC : Addr) : DS := (dFor (iLst (dVar 7)) (dgN 8) (dSeq (t_h18a BC) (t_h18b BC)))
abbrev t_i18 (BC : Addr) : DS := (dForZ (spZ_shortest_words BC) (dCons (dVar 4) (dCons (dVar 5) dNil)) (dgN 9) (dSeq (dIfS (dTB (dOp oNe (dVar 9) (dIxN 6 (dC (.int 0))))) (dRet (dC (.bl false))) dNext)
  (fun DD s => DD.bk s)))
abbrev t_j18 (BC : Addr) : DS := (dSet 10 (dCall (sp_Bonds BC) (dCons (dFr (dLs (dCons (dFr (dLs (dCons (dC (.int 1)) (dCons (dC (.int 3)) (dCons (dC (.int 2)) dNil))))) (dCons (dFr (dLs (dCons (dC (.int 3)) (dCons (dC (.int 1)) (dCons (dC (.int 3)) dNil))))) (dCons (dFr (dLs (dCons (dC (.int 2)) (dCons (dC (.int 3)) (dCons (dC (.int 1)) dNil))))) dNil))))) dNil)))
abbrev t_k18 (BC : Addr) : DS := (dRet (dAndV (dOp oEq (dCall (sp_count_shortestP BC) (dCons (dVar 10) (dCons (dTup (dCons (dC (.int 1)) (dCons (dC (.int 2)) (dCons (dC (.int 1)) (dCons (dC (.int 3)) (dCons (dC (.int 2)) (dCons (dC (.int 1)) dNil))))))) dNil))) (dC (.int 16))) (dOp oEq (dListG0 (spG_shortest_words BC) (dCons (dVar 10) (dCons (dTup (dCons (dC (.int 1)) (dCons (dC (.int 1)) dNil))) dNil))) (dFr (dLs (dCons (dTup dNil) dNil))))))
abbrev t_law18 (BC : Addr) (_ : PySem.W.Frag) : DS := (dSeq (dFor (iTp (dTup (dCons (dC (.int 4)) (dCons (dC (.int 6)) (dCons (dC (.int 9)) dNil))))) (dgN 2) (dSeq t_a18
  (dSeq (t_b18 BC)
  (dSeq t_c18
  (dSeq (t_d18 BC)
  (dSeq (t_e18 BC)
  (dSeq t_f18
  (dSeq t_g18
  (dSeq (t_h18 BC)
  (t_i18 BC))))))))))
  (dSeq (t_j18 BC)
  (t_k18 BC)))
abbrev sl18 (x2 x3 x4 x5 x6 x7 x8 x9 x10 x11 : Sl) : List Sl := [.no, .mst, x2, x3, x4, x5, x6, x7, x8, x9, x10, x11]
abbrev sp18 (T : Mat) (w : List Int) : List (List Int) := spS T (row T w.reverse)
structure G18 (T : Mat) (w : List Int) : Prop where
  ht : Tab T
  hw : Wd T.length w
  hl : w.length ≤ 9
theorem G18.few {T : Mat} {w : List Int} (g : G18 T w) : (sp18 T w).length ≤ 155520 := sp9_len g.ht g.hw g.hl
theorem G18.pos {T : Mat} {w : List Int} (g : G18 T w) : 0 < (sp18 T w).length := spS_pos g.ht g.hw (by have := g.hl; omega)
theorem G18.it {T : Mat} {w u : List Int} (g : G18 T w) (h : u ∈ sp18 T w) : Wd T.length u ∧ row T u = row T w ∧ Sh T u ∧ u.length ≤ 9 := by
  have hl := g.hl
  obtain ⟨a, b, c⟩ := (mem_spS g.ht g.hw (by omega)).mp h
  refine ⟨a, b, c, ?_⟩
  obtain ⟨k, hk, h2⟩ := LN.has g.hw
  have q : LN T u k := hk.cong g.hw a b.symm
  have := q.uniq c
  omega
theorem G18.dig {T : Mat} {w u : List Int} (g : G18 T w) (h : u ∈ sp18 T w) : ∀ a ∈ u, 1 ≤ a ∧ a ≤ 6 := fun a ha => by
  have q := (g.it h).1 a ha
  have := g.ht.hi
  omega
theorem plain_tIs : ∀ L : List (List Int), plainA (L.map tI) = true
  | [] => rfl
  | u :: L => by
    show (D.plain (tI u) && plainA (L.map tI)) = true
    rw [plain_tIs L, show D.plain (tI u) = true from plain_ints u]; rfl
theorem shw_digs : ∀ {u : List Int}, (∀ a ∈ u, 1 ≤ a ∧ a ≤ 6) → shwA (u.map D.int) = true
  | [], _ => rfl
  | a :: u, h => by
    have h1 := h a List.mem_cons_self
    have e : D.shw (D.int a) = true := by
      show decide (a.natAbs.log2 < 1920) = true
      rcases (by omega : a = 1 ∨ a = 2 ∨ a = 3 ∨ a = 4 ∨ a = 5 ∨ a = 6) with rfl | rfl | rfl | rfl | rfl | rfl <;> decide
    show (D.shw (D.int a) && shwA (u.map D.int)) = true
    rw [e, shw_digs fun b hb => h b (List.mem_cons_of_mem _ hb)]; rfl
theorem shw_tIs : ∀ {L : List (List Int)}, (∀ u ∈ L, ∀ a ∈ u, 1 ≤ a ∧ a ≤ 6) → shwA (L.map tI) = true
  | [], _ => rfl
  | u :: L, h => by
    show (D.shw (tI u) && shwA (L.map tI)) = true
    rw [shw_tIs fun v hv => h v (List.mem_cons_of_mem _ hv), show D.shw (tI u) = true from shw_digs (h u List.mem_cons_self)]; rfl
theorem dep_tIs : ∀ L : List (List Int), PyData.depthAll (pyA (L.map tI)) ≤ 1
  | [] => Nat.zero_le _
  | u :: L => by
    have ih := dep_tIs L
    have e : (tI u).py.depth = 1 := by
      show PyData.depthAll (pyA (u.map D.int)) + 1 = 1
      rw [py_ints, depth_ints]
    show max (tI u).py.depth (PyData.depthAll (pyA (L.map tI))) ≤ 1
    omega
theorem G18.shw {T : Mat} {w : List Int} (g : G18 T w) : ShwE (.lst ((sp18 T w).map tI)) := by
  refine ⟨plain_tIs _, shw_tIs fun u hu => g.dig hu, ?_, ?_⟩
  · have := dep_tIs (sp18 T w)
    show PyData.depthAll (pyA ((sp18 T w).map tI)) + 1 ≤ 60
    omega
  · have h := lsts_len (L := sp18 T w) (n := 9) (m := 155520) (fun u hu => ⟨g.dig hu, (g.it hu).2.2.2⟩) g.few
    exact Nat.le_trans h (by decide)
theorem G18.shw1 {T : Mat} {w u : List Int} (g : G18 T w) (h : u ∈ sp18 T w) : Shw (tI u) := by
  refine ⟨plain_ints u, shw_digs (g.dig h), ?_, ?_⟩
  · show PyData.depthAll (pyA (u.map D.int)) + 1 ≤ 60
    rw [py_ints, depth_ints]; decide
  · have e : ∀ v : List Int, wgA (v.map D.int) = 1923 * v.length := fun v => by
      induction v with
      | nil => rfl
      | cons a v ih =>
        show 1921 + 2 + wgA (v.map D.int) = _
        rw [ih, List.length_cons]; omega
    show wgA (u.map D.int) + 4 ≤ sizeLine
    rw [e]
    have := (g.it h).2.2.2
    exact Nat.le_trans (by omega : _ ≤ 20000) (by decide)
theorem dec_ne18 {x y : PySem.Str} (h : x = y) {Q : D → Prop} (q : Q (.bl false)) : oNe (.str x) (.str y) Q := by
  show Q (.bl (!decide (x = y)))
  rw [decide_eq_true h]
  exact q
section
variable {BC : Addr} {DD : DEnds} {T : Mat} {w L : List Int} {X : List Addr} {k : Nat} {x2 x3 x4 x5 x6 x7 x8 x9 x10 x11 : Sl}
theorem r_a18 (hk : k < 80000000000) (fin : ∀ (T : Mat) (k' : Nat), Tab T → k ≤ k' → k' ≤ k + 40 → DD.nx ⟨X, sl18 x2 (.dat (lM T)) x4 x5 x6 x7 x8 x9 x10 x11, k'⟩) : t_a18 DD ⟨X, sl18 x2 x3 x4 x5 x6 x7 x8 x9 x10 x11, k⟩ :=
  ⟨rfl, 6, rfl, by decide, by decide, by show k < _; omega, fun T k' ht hl a b => fin T k' ht a b⟩
theorem r_b18 {most : Int} (m0 : 0 ≤ most) (m9 : most ≤ 9) (ht : Tab T) (hk : k < 80000000000) (fin : ∀ (w : List Int) (k' : Nat), G18 T w → k ≤ k' → k' ≤ k + 200 → DD.nx ⟨X, sl18 (.dat (.int most)) (.dat (lM T)) (.dat (bnd BC T)) (.dat (tI w)) x6 x7 x8 x9 x10 x11, k'⟩) : t_b18 BC DD ⟨X, sl18 (.dat (.int most)) (.dat (lM T)) x4 x5 x6 x7 x8 x9 x10 x11, k⟩ :=
  ⟨_, rfl, T, rfl, ht, rfl, _, rfl, _, rfl, T, most, rfl, ht, m0, by omega, by show k < _; omega, fun w k' hw hl a b => fin w k' ⟨ht, hw, by omega⟩ a b⟩
theorem r_c18 (g : G18 T w) (fin : DD.nx ⟨X, sl18 x2 (.dat (lM T)) x4 (.dat (tI w)) (.dat (.lst ((sp18 T w).map tI))) x7 x8 x9 x10 x11, k⟩) : t_c18 DD ⟨X, sl18 x2 (.dat (lM T)) x4 (.dat (tI w)) x6 x7 x8 x9 x10 x11, k⟩ := by
  have hl := g.hl
  obtain ⟨a1, a2, a3, a4⟩ := lw_row2 g.ht g.hw (by omega)
  have e := row_rev g.ht a2 g.hw a1
  have fw := g.few
  refine ⟨_, rfl, _, rfl, _, rfl, T, w, rfl, g.ht, g.hw, by omega, T, lw T w, rfl, g.ht, a2, a4, by omega, ?_⟩
  rw [e]
  exact ⟨by show (sp18 T w).length ≤ _; omega, fin⟩
abbrev slT18 (BC : Addr) (T : Mat) (w : List Int) (x2 x7 x8 x9 x10 x11 : Sl) : List Sl := sl18 x2 (.dat (lM T)) (.dat (bnd BC T)) (.dat (tI w)) (.dat (.lst ((sp18 T w).map tI))) x7 x8 x9 x10 x11
theorem r_d18 (g : G18 T w) (fin : DD.nx ⟨X, slT18 BC T w x2 x7 x8 x9 x10 x11, k⟩) : t_d18 BC DD ⟨X, slT18 BC T w x2 x7 x8 x9 x10 x11, k⟩ := by
  have hl := g.hl
  have fw := g.few
  refine ⟨_, rfl, _, rfl, T, lI w, w, rfl, g.ht, .inl rfl, by omega, g.hw, by show (sp18 T w).length ≤ _; omega, ?_⟩
  refine ⟨trivial, g.shw, _, rfl, trivial, g.shw, ?_⟩
  exact dec_ne18 rfl ⟨_, rfl, iteF fin⟩
theorem log_small {n : Int} (h0 : 0 ≤ n) (h : n < 2 ^ 200) : n.natAbs.log2 < 1920 := by
  by_cases z : n.natAbs = 0
  · rw [z]; decide
  · refine Nat.lt_of_lt_of_le ((Nat.log2_lt z).mpr (by omega : n.natAbs < 2 ^ 200)) (by decide)
theorem r_e18 (g : G18 T w) (fin : DD.nx ⟨X, slT18 BC T w x2 x7 x8 x9 x10 x11, k⟩) : t_e18 BC DD ⟨X, slT18 BC T w x2 x7 x8 x9 x10 x11, k⟩ := by
  have hl := g.hl
  have fw := g.few
  have c : ((sp18 T w).length : Int) = cn T (row T w.reverse) := (cn_len T (row T w.reverse)).symm
  have lm : ((sp18 T w).map tI).length = (sp18 T w).length := List.length_map ..
  refine ⟨_, rfl, _, rfl, T, tI w, w, rfl, g.ht, .inr rfl, by omega, g.hw, ?_⟩
  refine ⟨_, rfl, fun i hi => by cases hi; exact log_small (by omega) (by omega), _, rfl, _, rfl, fun i hi => by cases hi; exact log_small (by omega) (by rw [lm]; omega), ?_⟩
  refine dec_ne18 ?_ ⟨_, rfl, iteF fin⟩
  show (toString (cn T (row T w.reverse)) : PySem.Str) = toString ((((sp18 T w).map tI).length : Nat) : Int)
  rw [lm, ← c]
structure Ns18 (T : Mat) (w : List Int) (L : List Int) : Prop where
  bd : ∀ i ∈ L, 0 ≤ i ∧ i < ((sp18 T w).length : Int)
theorem rng_ints (n : Nat) : rngD 0 n = ((List.range n).map fun (i : Nat) => (0 + (i : Int))).map D.int := by unfold rngD; rw [List.map_map]; rfl
theorem r_f18 (g : G18 T w) (fin : Ns18 T w ((List.range (sp18 T w).length).map fun (i : Nat) => (0 + (i : Int))) → DD.nx ⟨X, slT18 BC T w x2 (.dat (lI ((List.range (sp18 T w).length).map fun (i : Nat) => (0 + (i : Int))))) x8 x9 x10 x11, k⟩) : t_f18 DD ⟨X, slT18 BC T w x2 x7 x8 x9 x10 x11, k⟩ := by
  have fw := g.few
  have lm : ((sp18 T w).map tI).length = (sp18 T w).length := List.length_map ..
  refine ⟨_, rfl, _, rfl, by omega, by rw [lm]; omega, ?_⟩
  rw [lm, Int.toNat_natCast, rng_ints]
  refine fin ⟨fun i hi => ?_⟩
  obtain ⟨j, hj, rfl⟩ := List.mem_map.mp hi
  have := List.mem_range.mp hj
  omega
theorem r_g18 (g : G18 T w) (n : Ns18 T w L) (hk : k < 80000000000) (fin : ∀ L' x11 k', Ns18 T w L' → k ≤ k' → k' ≤ k + 8 → DD.nx ⟨X, slT18 BC T w x2 (.dat (lI L')) x8 x9 x10 x11, k'⟩) : t_g18 DD ⟨X, slT18 BC T w x2 (.dat (lI L)) x8 x9 x10 x11, k⟩ := by
  have fw := g.few
  have fp := g.pos
  have lm : ((sp18 T w).map tI).length = (sp18 T w).length := List.length_map ..
  refine ⟨_, rfl, _, rfl, ?_⟩
  by_cases c : ((L.map D.int).length : Int) > 20
  · rw [decide_eq_true c]
    refine iteT ⟨_, rfl, by show 2 ≤ lim; decide, 8, rfl, by decide, by decide, by show 8 ≤ lim; decide, fun p hp => ⟨fun j acc k' => k' = k + j ∧ ∃ ns : List Int, ns.length = j ∧ (∀ i ∈ ns, 0 ≤ i ∧ i < ((sp18 T w).length : Int)) ∧ acc = ns.map D.int, ⟨rfl, [], rfl, fun i h => (nomatch h), rfl⟩, ?_, ?_⟩⟩
    · rintro j d acc k' hd ⟨rfl, ns, rfl, hb, rfl⟩ _
      obtain ⟨hj, rfl⟩ := rngD_at hd
      refine iteT ⟨rfl, _, rfl, ((sp18 T w).length : Int), by rw [lm], by omega, by omega, by show k + _ < _; omega, fun z z0 z1 => ⟨by show k + ns.length + 1 = k + (ns.length + 1); omega, ns ++ [z], by rw [List.length_append]; rfl, fun i hi => ?_, by rw [List.map_append]; rfl⟩⟩
      rcases List.mem_append.mp hi with h | h
      · exact hb i h
      · rw [List.mem_singleton.mp h]; exact ⟨z0, z1⟩
    · rintro acc k' ⟨rfl, ns, hn, hb, rfl⟩ _
      have ln : ns.length = 8 := hn
      have ek : k + (rngD 0 (8 : Int).toNat).length = k + 8 := rfl
      rw [ek]
      have eL : [D.int 0, D.int (((sp18 T w).length : Int) - 1)] ++ ns.map D.int = ([0, ((sp18 T w).length : Int) - 1] ++ ns).map D.int := by rw [List.map_append]; rfl
      refine ⟨by show 2 + (ns.map D.int).length ≤ lim; rw [List.length_map, ln]; decide, ?_⟩
      rw [lm, eL]
      refine fin _ _ _ ⟨fun i hi => ?_⟩ (by omega) (by omega)
      rcases List.mem_append.mp hi with h | h
      · simp only [List.mem_cons, List.not_mem_nil, or_false] at h
        rcases h with rfl | rfl <;> omega
      · exact hb i h
  · rw [decide_eq_false c]
    exact iteF (fin L _ k n (Nat.le_refl _) (by omega))
theorem r_h18a {i : Int} {u : List Int} (g : G18 T w) (i0 : 0 ≤ i) (hu : (sp18 T w)[i.toNat]? = some u) (fin : DD.nx ⟨X, slT18 BC T w x2 x7 (.dat (.int i)) x9 x10 x11, k⟩) : t_h18a BC DD ⟨X, slT18 BC T w x2 x7 (.dat (.int i)) x9 x10 x11, k⟩ := by
  have hl := g.hl
  have hm := List.mem_of_getElem? hu
  have ha : atI ((sp18 T w).map tI) i = some (tI u) := by
    have := atI_us hu
    rwa [Int.toNat_of_nonneg i0] at this
  refine ⟨_, rfl, _, rfl, _, rfl, T, tI w, w, i.toNat, u, by rw [Int.toNat_of_nonneg i0], g.ht, .inr rfl, by omega, g.hw, hu, ?_⟩
  refine ⟨trivial, g.shw1 hm, _, rfl, _, rfl, i, tI u, rfl, ha, trivial, g.shw1 hm, ?_⟩
  exact dec_ne18 rfl ⟨_, rfl, iteF fin⟩
theorem r_h18b {i : Int} {u : List Int} (g : G18 T w) (i0 : 0 ≤ i) (hu : (sp18 T w)[i.toNat]? = some u) (fin : DD.nx ⟨X, slT18 BC T w x2 x7 (.dat (.int i)) x9 x10 x11, k⟩) : t_h18b BC DD ⟨X, slT18 BC T w x2 x7 (.dat (.int i)) x9 x10 x11, k⟩ := by
  have hl := g.hl
  have fw := g.few
  have hm := List.mem_of_getElem? hu
  have il := (List.getElem?_eq_some_iff.mp hu).1
  obtain ⟨q1, q2, q3, q4⟩ := g.it hm
  have ha : atI ((sp18 T w).map tI) i = some (tI u) := by
    have := atI_us hu
    rwa [Int.toNat_of_nonneg i0] at this
  have en : wnP T u u.length = (i.toNat : Int) := wn_sp g.ht g.hw (by omega) hu
  rw [Int.toNat_of_nonneg i0] at en
  have e := (wd_len g.ht u.length (f := 60) q1 q3 (by omega)).1
  have lg : i.natAbs.log2 < 1920 := log_small i0 (by omega)
  refine ⟨_, rfl, _, rfl, _, rfl, i, tI u, rfl, ha, u.map D.int, rfl, T, lI u, u, rfl, g.ht, .inl rfl, by omega, q1, e, ?_⟩
  rw [en]
  refine ⟨_, rfl, fun j hj => by cases hj; exact lg, _, rfl, _, rfl, fun j hj => by cases hj; exact lg, ?_⟩
  exact dec_ne18 rfl ⟨_, rfl, iteF fin⟩
theorem r_h18 (g : G18 T w) (n : Ns18 T w L) (fin : ∀ x8, DD.nx ⟨X, slT18 BC T w x2 (.dat (lI L)) x8 x9 x10 x11, k⟩) : t_h18 BC DD ⟨X, slT18 BC T w x2 (.dat (lI L)) x8 x9 x10 x11, k⟩ := by
  refine ⟨_, rfl, _, rfl, fun j s' => ∃ y8, s' = ⟨X, slT18 BC T w x2 (.dat (lI L)) y8 x9 x10 x11, k⟩, ⟨_, rfl⟩, ?_, ?_⟩
  · rintro j d s' hd ⟨y8, rfl⟩
    rw [List.getElem?_map] at hd
    obtain ⟨i, hi, rfl⟩ := Option.map_eq_some_iff.mp hd
    obtain ⟨b0, b1⟩ := n.bd i (List.mem_of_getElem? hi)
    have hu : (sp18 T w)[i.toNat]? = some (sp18 T w)[i.toNat] := List.getElem?_eq_getElem (by omega)
    exact r_h18a g b0 hu (r_h18b g b0 hu ⟨_, rfl⟩)
  · rintro s' ⟨y8, rfl⟩
    exact fin y8
theorem r_i18 (g : G18 T w) (fin : ∀ x9, DD.nx ⟨X, slT18 BC T w x2 x7 x8 x9 x10 x11, k⟩) : t_i18 BC DD ⟨X, slT18 BC T w x2 x7 x8 x9 x10 x11, k⟩ := by
  have hl := g.hl
  have fw := g.few
  have fp := g.pos
  obtain ⟨e, l, el⟩ : ∃ e l, sp18 T w = e :: l := List.exists_cons_of_length_pos fp
  have he : (sp18 T w).head? = some e := by rw [el]; rfl
  have ha : atI ((sp18 T w).map tI) 0 = some (tI e) := by
    have h0 : (sp18 T w)[0]? = some e := by rw [el]; rfl
    exact atI_us h0
  refine ⟨_, rfl, _, rfl, T, tI w, w, e, rfl, g.ht, .inr rfl, by omega, g.hw, by show (sp18 T w).length ≤ _; omega, rfl, he, fun _ => ?_⟩
  refine ⟨_, rfl, _, rfl, 0, tI e, rfl, ha, ?_⟩
  exact ne_tI ⟨_, rfl, iteF (fin _)⟩
end
abbrev T18 : Mat := [[1, 3, 2], [3, 1, 3], [2, 3, 1]]
theorem tab18 : Tab T18 := by
  refine ⟨by decide, by decide, by decide, by decide, ?_, ?_⟩
  · have h : ∀ i, i < 3 → ∀ j, j < 3 → i ≠ j → at2 T18 i j = 2 ∨ at2 T18 i j = 3 ∨ at2 T18 i j = 4 ∨ at2 T18 i j = 6 ∨ at2 T18 i j = 0 := by decide
    exact fun i j hi hj => h i hi j hj
  · have h : ∀ i, i < 3 → ∀ j, j < 3 → at2 T18 i j = at2 T18 j i := by decide
    exact fun i j hi hj => h i hi j hj
theorem cn18 : cn T18 (row T18 [1, 2, 1, 3, 2, 1].reverse) = 16 := by kernel_rfl
theorem sp18e : spS T18 (row T18 [1, 1].reverse) = [[]] := by kernel_rfl
theorem wd18 : Wd T18.length [1, 2, 1, 3, 2, 1] ∧ Wd T18.length [1, 1] := ⟨by unfold Wd; decide, by unfold Wd; decide⟩
section
variable {BC : Addr} {DD : DEnds} {T : Mat} {X : List Addr} {k : Nat} {x2 x3 x4 x5 x6 x7 x8 x9 x10 x11 : Sl}
theorem r_j18 (hT : T = T18) (ht : Tab T) (fin : DD.nx ⟨X, sl18 x2 x3 x4 x5 x6 x7 x8 x9 (.dat (bnd BC T)) x11, k⟩) : t_j18 BC DD ⟨X, sl18 x2 x3 x4 x5 x6 x7 x8 x9 x10 x11, k⟩ := by
  refine ⟨by show 3 ≤ lim; decide, by show 3 ≤ lim; decide, by show 3 ≤ lim; decide, by show 3 ≤ lim; decide, T, by rw [hT]; rfl, ht, fin⟩
theorem r_k18 (ht : Tab T) (w1 : Wd T.length [1, 2, 1, 3, 2, 1]) (w2 : Wd T.length [1, 1]) (e1 : cn T (row T [1, 2, 1, 3, 2, 1].reverse) = 16) (e2 : spS T (row T [1, 1].reverse) = [[]]) (fin : ∀ k, DD.rt (.bl true) k) : t_k18 BC DD ⟨X, sl18 x2 x3 x4 x5 x6 x7 x8 x9 (.dat (bnd BC T)) x11, k⟩ := by
  intro X'
  refine ⟨_, rfl, by show 6 ≤ lim; decide, T, tI [1, 2, 1, 3, 2, 1], [1, 2, 1, 3, 2, 1], rfl, ht, .inr rfl, by decide, w1, ?_⟩
  rw [e1]
  refine ⟨okI _, okI _, _, rfl, ?_⟩
  refine iteT ⟨_, rfl, by show 2 ≤ lim; decide, T, tI [1, 1], [1, 1], rfl, ht, .inr rfl, by decide, w2, by rw [e2]; decide, ?_⟩
  rw [e2]
  refine ⟨by show 0 ≤ lim; decide, by show 1 ≤ lim; decide, ?_⟩
  exact eqS (okE_lIs [[]]) (fin _)
end
theorem r_law18 (BC : Addr) (K : PySem.W.Frag) (DD : DEnds) (hrt : ∀ k, DD.rt (.bl true) k) : t_law18 BC K DD ⟨[], [.no, .mst, .no, .no, .no, .no, .no, .no, .no, .no, .no, .no], 0⟩ := by
  refine ⟨by show 3 ≤ lim; decide, _, rfl, fun i s' => ∃ (X : List Addr) (x2 x3 x4 x5 x6 x7 x8 x9 x10 x11 : Sl) (k : Nat), s' = ⟨X, sl18 x2 x3 x4 x5 x6 x7 x8 x9 x10 x11, k⟩ ∧ k ≤ 1000 * i, ⟨_, _, _, _, _, _, _, _, _, _, _, 0, rfl, by omega⟩, ?_, ?_⟩
  · rintro i d s' hd ⟨X, x2, x3, x4, x5, x6, x7, x8, x9, x10, x11, k, rfl, hk⟩
    have mo : ∃ most : Int, d = .int most ∧ 0 ≤ most ∧ most ≤ 9 := by
      have hm := List.mem_of_getElem? hd
      simp only [List.mem_cons, List.not_mem_nil, or_false] at hm
      rcases hm with rfl | rfl | rfl
      · exact ⟨4, rfl, by decide, by decide⟩
      · exact ⟨6, rfl, by decide, by decide⟩
      · exact ⟨9, rfl, by decide, by decide⟩
    obtain ⟨most, rfl, m0, m9⟩ := mo
    have hi : i < 3 := (List.getElem?_eq_some_iff.mp hd).1
    refine r_a18 (k := k) (by omega) fun T k1 ht a1 b1 => ?_
    refine r_b18 (k := k1) m0 m9 ht (by omega) fun w k2 g a2 b2 => ?_
    refine r_c18 g (r_d18 g (r_e18 g (r_f18 g fun n => ?_)))
    refine r_g18 (k := k2) g n (by omega) fun L y11 k3 n2 a3 b3 => ?_
    refine r_h18 g n2 fun y8 => r_i18 g fun y9 => ?_
    exact ⟨X, _, _, _, _, _, _, _, _, _, _, k3, rfl, by omega⟩
  · rintro s' ⟨X, x2, x3, x4, x5, x6, x7, x8, x9, x10, x11, k, rfl, hk⟩
    exact r_j18 rfl tab18 (r_k18 tab18 wd18.1 wd18.2 cn18 sp18e hrt)
end BW
namespace BW
open PySem L2 DL
theorem pd_globE {X : Cx} {c : C} {x : PySem.Str} {pos : Pos} {i : Int} (h : ∃ t, X.mg x = some (.int i t)) (hg : Gl X x := by rfl) (hd : (x == ("__debug__" : PySem.Str)) = false := by decide) : PE X (.Name x pos) (LE c (dC (.int i))) := by
  obtain ⟨t, h⟩ := h
  exact pd_globI h hg hd
abbrev s_is_whole : Stmt := top 14
theorem sc_is_whole : FnScope ["value"] ["value"] (defScope s_is_whole) := ⟨rfl, rfl, rfl, by decide +kernel, rfl, by decide +kernel, by decide +kernel⟩
theorem w_is_whole {P : Program} {w : World} {K : PySem.W.Frag} {mg : PySem.Str → Option Value} {base : Heap} (g_isinstance : mg "isinstance" = none) (g_int : mg "int" = none) (g_bool : mg "bool" = none) (qual : PySem.Str) (f : Addr) (cdv : Value) (A : Around) (outer : List Env) (s : Shared) (H : Hp) (E : XK) (M : Option Mc) (X0 : List Addr)
    (hr : Room 0 (A.deeper (PyProof.Rows.envOfC qual (defScope s_is_whole) s.heap.objs.size f cdv))) :
    PSs (cxOf CX0 P w K mg base ["value"] qual (defScope s_is_whole) f cdv A outer s H E).nox (defBody s_is_whole) (LS ⟨K, M, X0, H, []⟩ t_is_whole) :=
  (psd_one (psd_ret (pd_andV (pd_isi rfl g_isinstance g_int PyProof.Rows.boot_int (pd_var 0)) (pd_one (pd_notV (pd_isi rfl g_isinstance g_bool PyProof.Rows.boot_bool (pd_var 0)))))))
abbrev s_is_letter : Stmt := top 15
theorem sc_is_letter : FnScope ["value", "many"] ["value", "many"] (defScope s_is_letter) := ⟨rfl, rfl, rfl, by decide +kernel, rfl, by decide +kernel, by decide +kernel⟩
theorem w_is_letter {P : Program} {w : World} {K : PySem.W.Frag} {mg : PySem.Str → Option Value} {base : Heap} (c_is_whole : CalD P w K mg base 1 "is_whole" false sp_is_whole) (qual : PySem.Str) (f : Addr) (cdv : Value) (A : Around) (outer : List Env) (s : Shared) (H : Hp) (E : XK) (M : Option Mc) (X0 : List Addr)
    (hr : Room 1 (A.deeper (PyProof.Rows.envOfC qual (defScope s_is_letter) s.heap.objs.size f cdv))) :
    PSs (cxOf CX0 P w K mg base ["value", "many"] qual (defScope s_is_letter) f cdv A outer s H E).nox (defBody s_is_letter) (LS ⟨K, M, X0, H, []⟩ t_is_letter) :=
  (psd_one (psd_ret (pd_andV (pd_call rfl c_is_whole hr (by decide) (pad_cons (pd_var 0) pad_nil)) (pd_one (pd_chain op_le fit_le op_le fit_le pd_int (pd_var 0) (pd_var 1))))))
abbrev s_can_stand : Stmt := top 17
theorem sc_can_stand : FnScope ["rows", "one", "other", "item"] ["rows", "one", "other"] (defScope s_can_stand) := ⟨rfl, rfl, rfl, by decide +kernel, rfl, by decide +kernel, by decide +kernel⟩
theorem w_can_stand {P : Program} {w : World} {K : PySem.W.Frag} {mg : PySem.Str → Option Value} {base : Heap} (g_OWN_BOND : ∃ t, mg "OWN_BOND" = some (.int (1) t)) (g_WEIGHTS : KdAt P w K mg "WEIGHTS" kd_WEIGHTS) (c_is_whole : CalD P w K mg base 1 "is_whole" false sp_is_whole) (qual : PySem.Str) (f : Addr) (cdv : Value) (A : Around) (outer : List Env) (s : Shared) (H : Hp) (E : XK) (M : Option Mc) (X0 : List Addr)
    (hr : Room 1 (A.deeper (PyProof.Rows.envOfC qual (defScope s_can_stand) s.heap.objs.size f cdv))) :
    PSs (cxOf CX0 P w K mg base ["rows", "one", "other", "item"] qual (defScope s_can_stand) f cdv A outer s H E).nox (defBody s_can_stand) (LS ⟨K, M, X0, H, []⟩ t_can_stand) :=
  (psd_cons (psd_set 3 sc_can_stand.nd (pd_ix rfl (pd_ixN rfl 0 (pd_sub (pd_var 1) pd_int)) (pd_sub (pd_var 2) pd_int)))
  (psd_cons (psd_if (ptd_not (pt_tru rfl (pd_call rfl c_is_whole hr (by decide) (pad_cons (pd_var 3) pad_nil)))) (psd_one (psd_ret pd_bl)) psd_nil)
  (psd_cons (psd_if (ptd_cmp (OpR.or op_eq (op_eqD hr.units)) (fit_eq rfl) (pd_var 1) (pd_var 2)) (psd_one (psd_ret (pd_cmp (OpR.or op_eq (op_eqD hr.units)) (fit_eq rfl) (pd_var 3) (pd_globE g_OWN_BOND)))) psd_nil)
  (psd_cons (psd_if (ptd_cmp op_lt fit_lt (pd_var 1) (pd_var 2)) (psd_one (psd_ret (pd_inkd g_WEIGHTS (pd_var 3)))) psd_nil)
  (psd_one (psd_ret (pd_cmp (OpR.or op_eq (op_eqD hr.units)) (fit_eq rfl) (pd_var 3) (pd_ix rfl (pd_ixN rfl 0 (pd_sub (pd_var 2) pd_int)) (pd_sub (pd_var 1) pd_int)))))))))
abbrev s_check_shape : Stmt := top 18
theorem sc_check_shape : FnScope ["rows", "row"] ["rows"] (defScope s_check_shape) := ⟨rfl, rfl, rfl, by decide +kernel, rfl, by decide +kernel, by decide +kernel⟩
theorem w_check_shape {P : Program} {w : World} {K : PySem.W.Frag} {mg : PySem.Str → Option Value} {base : Heap} (g_isinstance : mg "isinstance" = none) (g_list : mg "list" = none) (g_tuple : mg "tuple" = none) (g_len : mg "len" = none) (g_MOST_LETTERS : ∃ t, mg "MOST_LETTERS" = some (.int (6) t)) (qual : PySem.Str) (f : Addr) (cdv : Value) (A : Around) (outer : List Env) (s : Shared) (H : Hp) (E : XK) (M : Option Mc) (X0 : List Addr)
    (hr : Room 0 (A.deeper (PyProof.Rows.envOfC qual (defScope s_check_shape) s.heap.objs.size f cdv))) :
    PSs (cxOf CX0 P w K mg base ["rows", "row"] qual (defScope s_check_shape) f cdv A outer s H E).nox (defBody s_check_shape) (LS ⟨K, M, X0, H, []⟩ t_check_shape) :=
  (psd_cons (psd_if (PW.pt (pwd_or (ptd_not (pt_tru rfl (pd_isi2 rfl g_isinstance g_list g_tuple PyProof.Rows.boot_list PyProof.Rows.boot_tuple (pd_var 0)))) (pwd_or1 (ptd_cmp (OpR.or op_eq (op_eqD hr.units)) (fit_eq rfl) (pd_lenN rfl g_len 0) pd_int)))) (psd_one psd_never) psd_nil)
  (psd_cons (psd_if (ptd_cmp op_gt fit_gt (pd_lenN rfl g_len 0) (pd_globE g_MOST_LETTERS)) (psd_one psd_never) psd_nil)
  (psd_one (psd_for PassesOwn.never rfl (pid_list rfl (pd_var 0)) (pgd_name 1 sc_check_shape.nd) (psd_one (psd_if (PW.pt (pwd_or (ptd_not (pt_tru rfl (pd_isi2 rfl g_isinstance g_list g_tuple PyProof.Rows.boot_list PyProof.Rows.boot_tuple (pd_var 1)))) (pwd_or1 (ptd_cmp (OpR.or op_ne (op_neD hr.units)) (fit_ne rfl) (pd_lenN rfl g_len 1) (pd_lenN rfl g_len 0))))) (psd_one psd_never) psd_nil))))))
abbrev s_check_table : Stmt := top 19
theorem sc_check_table : FnScope ["rows", "letters", "one", "other"] ["rows"] (defScope s_check_table) := ⟨rfl, rfl, rfl, by decide +kernel, rfl, by decide +kernel, by decide +kernel⟩
theorem w_check_table {P : Program} {w : World} {K : PySem.W.Frag} {mg : PySem.Str → Option Value} {base : Heap} (g_list : mg "list" = none) (g_range : mg "range" = none) (g_len : mg "len" = none) (c_check_shape : CalD P w K mg base 1 "check_shape" false sp_check_shape) (c_can_stand : CalD P w K mg base 2 "can_stand" false sp_can_stand) (qual : PySem.Str) (f : Addr) (cdv : Value) (A : Around) (outer : List Env) (s : Shared) (H : Hp) (E : XK) (M : Option Mc) (X0 : List Addr)
    (hr : Room 2 (A.deeper (PyProof.Rows.envOfC qual (defScope s_check_table) s.heap.objs.size f cdv))) :
    PSs (cxOf CX0 P w K mg base ["rows", "letters", "one", "other"] qual (defScope s_check_table) f cdv A outer s H E).nox (defBody s_check_table) (LS ⟨K, M, X0, H, []⟩ t_check_table) :=
  (psd_cons (psd_expr (pd_call rfl c_check_shape hr (by decide) (pad_cons (pd_var 0) pad_nil)))
  (psd_cons (psd_set 1 sc_check_table.nd (pd_fr (pdf_lr2 rfl g_list g_range pd_int (pd_add rfl (pd_lenN rfl g_len 0) pd_int))))
  (psd_one (psd_for PassesOwn.never rfl (pid_list rfl (pd_var 1)) (pgd_name 2 sc_check_table.nd) (psd_one (psd_for PassesOwn.never rfl (pid_list rfl (pd_var 1)) (pgd_name 3 sc_check_table.nd) (psd_one (psd_if (ptd_not (pt_tru rfl (pd_call rfl c_can_stand hr (by decide) (pad_cons (pd_var 0) (pad_cons (pd_var 2) (pad_cons (pd_var 3) pad_nil)))))) (psd_one psd_never) psd_nil))))))))
abbrev s_weight_of : Stmt := top 20
theorem sc_weight_of : FnScope ["table", "one", "other", "upward", "downward"] ["table", "one", "other"] (defScope s_weight_of) := ⟨rfl, rfl, rfl, by decide +kernel, rfl, by decide +kernel, by decide +kernel⟩
theorem w_weight_of {P : Program} {w : World} {K : PySem.W.Frag} {mg : PySem.Str → Option Value} {base : Heap} (g_OWN_WEIGHT : ∃ t, mg "OWN_WEIGHT" = some (.int (-2) t)) (g_WEIGHTS : KdAt P w K mg "WEIGHTS" kd_WEIGHTS) (qual : PySem.Str) (f : Addr) (cdv : Value) (A : Around) (outer : List Env) (s : Shared) (H : Hp) (E : XK) (M : Option Mc) (X0 : List Addr)
    (hr : Room 0 (A.deeper (PyProof.Rows.envOfC qual (defScope s_weight_of) s.heap.objs.size f cdv))) :
    PSs (cxOf CX0 P w K mg base ["table", "one", "other", "upward", "downward"] qual (defScope s_weight_of) f cdv A outer s H E).nox (defBody s_weight_of) (LS ⟨K, M, X0, H, []⟩ t_weight_of) :=
  (psd_cons (psd_if (ptd_cmp (OpR.or op_eq (op_eqD hr.units)) (fit_eq rfl) (pd_var 1) (pd_var 2)) (psd_one (psd_ret (pd_globE g_OWN_WEIGHT))) psd_nil)
  (psd_cons (psd_asg (pd_kd rfl g_WEIGHTS (pd_ix rfl (pd_ixN rfl 0 (pd_sub (pd_var 1) pd_int)) (pd_sub (pd_var 2) pd_int))) (pgd_tup rfl rfl (pgds_cons (pgd_name 3 sc_weight_of.nd) (pgds_cons (pgd_name 4 sc_weight_of.nd) pgds_nil))))
  (psd_one (psd_ret (pd_if (ptd_cmp op_lt fit_lt (pd_var 1) (pd_var 2)) (pd_var 3) (pd_var 4))))))
abbrev s_weights_from : Stmt := top 21
theorem sc_weights_from : FnScope ["table", "one", "other"] ["table", "one"] (defScope s_weights_from) := ⟨rfl, rfl, rfl, by decide +kernel, rfl, by decide +kernel, by decide +kernel⟩
theorem w_weights_from {P : Program} {w : World} {K : PySem.W.Frag} {mg : PySem.Str → Option Value} {base : Heap} (g_tuple : mg "tuple" = none) (g_range : mg "range" = none) (g_len : mg "len" = none) (c_weight_of : CalD P w K mg base 1 "weight_of" false sp_weight_of) (qual : PySem.Str) (f : Addr) (cdv : Value) (A : Around) (outer : List Env) (s : Shared) (H : Hp) (E : XK) (M : Option Mc) (X0 : List Addr)
    (hr : Room 1 (A.deeper (PyProof.Rows.envOfC qual (defScope s_weights_from) s.heap.objs.size f cdv))) :
    PSs (cxOf CX0 P w K mg base ["table", "one", "other"] qual (defScope s_weights_from) f cdv A outer s H E).nox (defBody s_weights_from) (LS ⟨K, M, X0, H, []⟩ t_weights_from) :=
  (psd_one (psd_ret (pd_tupOf rfl g_tuple (pd_fr (pdf_lc (own := [("other", 2)]) rfl sc_weights_from.nd (pid_r2 g_range pd_int (pd_add rfl (pd_lenN rfl g_len 0) pd_int)) (blkOk_by (N := ["table", "one", "other"]) (sc := defScope s_weights_from) (by decide +kernel)) (fun sB HB CB clB fpB => (pgd_name 2 sc_weights_from.nd)) (fun sB HB CB clB fpB => pts_none) (fun sB HB CB clB fpB => (pd_call rfl c_weight_of hr (by decide) (pad_cons (pd_var 0) (pad_cons (pd_var 1) (pad_cons (pd_var 2) pad_nil))))))))))
abbrev s_as_word : Stmt := top 24
theorem sc_as_word : FnScope ["value", "many", "place", "item"] ["value", "many"] (defScope s_as_word) := ⟨rfl, rfl, rfl, by decide +kernel, rfl, by decide +kernel, by decide +kernel⟩
theorem w_as_word {P : Program} {w : World} {K : PySem.W.Frag} {mg : PySem.Str → Option Value} {base : Heap} (g_isinstance : mg "isinstance" = none) (g_list : mg "list" = none) (g_tuple : mg "tuple" = none) (g_len : mg "len" = none) (g_MOST_WORD : ∃ t, mg "MOST_WORD" = some (.int (60) t)) (g_enumerate : mg "enumerate" = none) (c_is_letter : CalD P w K mg base 2 "is_letter" false sp_is_letter) (qual : PySem.Str) (f : Addr) (cdv : Value) (A : Around) (outer : List Env) (s : Shared) (H : Hp) (E : XK) (M : Option Mc) (X0 : List Addr)
    (hr : Room 2 (A.deeper (PyProof.Rows.envOfC qual (defScope s_as_word) s.heap.objs.size f cdv))) :
    PSs (cxOf CX0 P w K mg base ["value", "many", "place", "item"] qual (defScope s_as_word) f cdv A outer s H E).nox (defBody s_as_word) (LS ⟨K, M, X0, H, []⟩ t_as_word) :=
  (psd_cons (psd_if (ptd_not (pt_tru rfl (pd_isi2 rfl g_isinstance g_list g_tuple PyProof.Rows.boot_list PyProof.Rows.boot_tuple (pd_var 0)))) (psd_one psd_never) psd_nil)
  (psd_cons (psd_if (ptd_cmp op_gt fit_gt (pd_lenN rfl g_len 0) (pd_globE g_MOST_WORD)) (psd_one psd_never) psd_nil)
  (psd_cons (psd_for PassesOwn.never rfl (pid_enumS rfl g_enumerate (pd_var 0)) (pgd_tup rfl rfl (pgds_cons (pgd_name 2 sc_as_word.nd) (pgds_cons (pgd_name 3 sc_as_word.nd) pgds_nil))) (psd_one (psd_if (ptd_not (pt_tru rfl (pd_call rfl c_is_letter hr (by decide) (pad_cons (pd_var 3) (pad_cons (pd_var 1) pad_nil))))) (psd_one psd_never) psd_nil)))
  (psd_one (psd_ret (pd_tupN rfl g_tuple 0))))))
abbrev s_first_row : Stmt := top 26
theorem sc_first_row : FnScope ["bonds"] ["bonds"] (defScope s_first_row) := ⟨rfl, rfl, rfl, by decide +kernel, rfl, by decide +kernel, by decide +kernel⟩
theorem w_first_row {P : Program} {w : World} {K : PySem.W.Frag} {mg : PySem.Str → Option Value} {base : Heap} {BC : Addr} (g_len : mg "len" = none) (c_len_Bonds : LenD P w K mg base 1 BC (sp_len_Bonds BC)) (qual : PySem.Str) (f : Addr) (cdv : Value) (A : Around) (outer : List Env) (s : Shared) (H : Hp) (E : XK) (M : Option Mc) (X0 : List Addr)
    (hr : Room 2 (A.deeper (PyProof.Rows.envOfC qual (defScope s_first_row) s.heap.objs.size f cdv))) :
    PSs (cxOf CX0 P w K mg base ["bonds"] qual (defScope s_first_row) f cdv A outer s H E).nox (defBody s_first_row) (LS ⟨K, M, X0, H, []⟩ (t_first_row BC)) :=
  (psd_one (psd_ret (pd_mul rfl (pd_tup (pad_cons pd_int pad_nil)) (pd_lenO rfl g_len c_len_Bonds hr (by decide) (pd_var 0)))))
abbrev s_pressed : Stmt := top 27
theorem sc_pressed : FnScope ["bonds", "row", "letter", "number", "weights", "old", "weight"] ["bonds", "row", "letter"] (defScope s_pressed) := ⟨rfl, rfl, rfl, by decide +kernel, rfl, by decide +kernel, by decide +kernel⟩
theorem w_pressed {P : Program} {w : World} {K : PySem.W.Frag} {mg : PySem.Str → Option Value} {base : Heap} {BC : Addr} (g_tuple : mg "tuple" = none) (g_zip : mg "zip" = none) (g_Bonds : Cls K BC) (g_Bonds_weights : NoAttr K BC "weights") (qual : PySem.Str) (f : Addr) (cdv : Value) (A : Around) (outer : List Env) (s : Shared) (H : Hp) (E : XK) (M : Option Mc) (X0 : List Addr)
    (hr : Room 0 (A.deeper (PyProof.Rows.envOfC qual (defScope s_pressed) s.heap.objs.size f cdv))) :
    PSs (cxOf CX0 P w K mg base ["bonds", "row", "letter", "number", "weights", "old", "weight"] qual (defScope s_pressed) f cdv A outer s H E).nox (defBody s_pressed) (LS ⟨K, M, X0, H, []⟩ (t_pressed BC)) :=
  (psd_cons (psd_set 3 sc_pressed.nd (pd_ixN rfl 1 (pd_sub (pd_var 2) pd_int)))
  (psd_cons (psd_set 4 sc_pressed.nd (pd_ix rfl (pd_fld rfl g_Bonds g_Bonds_weights (pd_var 0)) (pd_sub (pd_var 2) pd_int)))
  (psd_one (psd_ret (pd_tupOf rfl g_tuple (pd_fr (pdf_lc (own := [("old", 5), ("weight", 6)]) rfl sc_pressed.nd (pid_zip rfl g_zip (pd_var 1) (pd_var 4)) (blkOk_by (N := ["bonds", "row", "letter", "number", "weights", "old", "weight"]) (sc := defScope s_pressed) (by decide +kernel)) (fun sB HB CB clB fpB => (pgd_tup rfl rfl (pgds_cons (pgd_name 5 sc_pressed.nd) (pgds_cons (pgd_name 6 sc_pressed.nd) pgds_nil)))) (fun sB HB CB clB fpB => pts_none) (fun sB HB CB clB fpB => (pd_add rfl (pd_var 5) (pd_mul rfl (pd_var 6) (pd_var 3)))))))))))
abbrev s_row_behind : Stmt := top 28
theorem sc_row_behind : FnScope ["bonds", "letters", "row", "letter"] ["bonds", "letters"] (defScope s_row_behind) := ⟨rfl, rfl, rfl, by decide +kernel, rfl, by decide +kernel, by decide +kernel⟩
theorem w_row_behind {P : Program} {w : World} {K : PySem.W.Frag} {mg : PySem.Str → Option Value} {base : Heap} {BC : Addr} (c_first_row : CalD P w K mg base 3 "first_row" false (sp_first_row BC)) (c_pressed : CalD P w K mg base 1 "pressed" false (sp_pressed BC)) (qual : PySem.Str) (f : Addr) (cdv : Value) (A : Around) (outer : List Env) (s : Shared) (H : Hp) (E : XK) (M : Option Mc) (X0 : List Addr)
    (hr : Room 3 (A.deeper (PyProof.Rows.envOfC qual (defScope s_row_behind) s.heap.objs.size f cdv))) :
    PSs (cxOf CX0 P w K mg base ["bonds", "letters", "row", "letter"] qual (defScope s_row_behind) f cdv A outer s H E).nox (defBody s_row_behind) (LS ⟨K, M, X0, H, []⟩ (t_row_behind BC)) :=
  (psd_cons (psd_set 2 sc_row_behind.nd (pd_call rfl c_first_row hr (by decide) (pad_cons (pd_var 0) pad_nil)))
  (psd_cons (psd_for PassesOwn.never rfl (pid_seq rfl (pd_var 1)) (pgd_name 3 sc_row_behind.nd) (psd_one (psd_set 2 sc_row_behind.nd (pd_call rfl c_pressed hr (by decide) (pad_cons (pd_var 0) (pad_cons (pd_var 2) (pad_cons (pd_var 3) pad_nil)))))))
  (psd_one (psd_ret (pd_var 2)))))
abbrev s_fallen : Stmt := top 29
theorem sc_fallen : FnScope ["row", "at", "number"] ["row"] (defScope s_fallen) := ⟨rfl, rfl, rfl, by decide +kernel, rfl, by decide +kernel, by decide +kernel⟩
theorem w_fallen {P : Program} {w : World} {K : PySem.W.Frag} {mg : PySem.Str → Option Value} {base : Heap} (g_tuple : mg "tuple" = none) (g_enumerate : mg "enumerate" = none) (qual : PySem.Str) (f : Addr) (cdv : Value) (A : Around) (outer : List Env) (s : Shared) (H : Hp) (E : XK) (M : Option Mc) (X0 : List Addr)
    (hr : Room 0 (A.deeper (PyProof.Rows.envOfC qual (defScope s_fallen) s.heap.objs.size f cdv))) :
    PSs (cxOf CX0 P w K mg base ["row", "at", "number"] qual (defScope s_fallen) f cdv A outer s H E).nox (defBody s_fallen) (LS ⟨K, M, X0, H, []⟩ t_fallen) :=
  (psd_one (psd_ret (pd_tupOf rfl g_tuple (pd_fr (pdf_lc (own := [("at", 1), ("number", 2)]) rfl sc_fallen.nd (pid_enumS rfl g_enumerate (pd_var 0)) (blkOk_by (N := ["row", "at", "number"]) (sc := defScope s_fallen) (by decide +kernel)) (fun sB HB CB clB fpB => (pgd_tup rfl rfl (pgds_cons (pgd_name 1 sc_fallen.nd) (pgds_cons (pgd_name 2 sc_fallen.nd) pgds_nil)))) (fun sB HB CB clB fpB => (ptsd_one (ptd_cmp op_lt fit_lt (pd_var 2) pd_int))) (fun sB HB CB clB fpB => (pd_add rfl (pd_var 1) pd_int)))))))
abbrev s_way_down : Stmt := top 30
theorem sc_way_down : FnScope ["bonds", "row", "letters", "now", "low"] ["bonds", "row"] (defScope s_way_down) := ⟨rfl, rfl, rfl, by decide +kernel, rfl, by decide +kernel, by decide +kernel⟩
theorem w_way_down {P : Program} {w : World} {K : PySem.W.Frag} {mg : PySem.Str → Option Value} {base : Heap} {BC : Addr} (g_len : mg "len" = none) (g_MOST_WORD : ∃ t, mg "MOST_WORD" = some (.int (60) t)) (c_fallen : CalD P w K mg base 1 "fallen" false sp_fallen) (c_pressed : CalD P w K mg base 1 "pressed" false (sp_pressed BC)) (qual : PySem.Str) (f : Addr) (cdv : Value) (A : Around) (outer : List Env) (s : Shared) (H : Hp) (E : XK) (M : Option Mc) (X0 : List Addr)
    (hr : Room 1 (A.deeper (PyProof.Rows.envOfC qual (defScope s_way_down) s.heap.objs.size f cdv))) :
    PSs (cxOf CX0 P w K mg base ["bonds", "row", "letters", "now", "low"] qual (defScope s_way_down) f cdv A outer s H E).nox (defBody s_way_down) (LS ⟨K, M, X0, H, [2]⟩ (t_way_down BC)) :=
  (psd_cons (psd_setO 2 rfl sc_way_down.nd (pdf_lst pad_nil))
  (psd_cons (psd_set 3 sc_way_down.nd (pd_var 1))
  (psd_cons (psd_set 4 sc_way_down.nd (pd_call rfl c_fallen hr (by decide) (pad_cons (pd_var 3) pad_nil)))
  (psd_cons (psd_while PassesOwn.never (PW.pt (pwd_and (pt_tru rfl (pd_var 4)) (pwd_and1 (ptd_cmp op_lt fit_lt (pd_lenN rfl g_len 2) (pd_globE g_MOST_WORD))))) (psd_cons (psd_app 2 (pd_ixN rfl 4 pd_int))
  (psd_cons (psd_set 3 sc_way_down.nd (pd_call rfl c_pressed hr (by decide) (pad_cons (pd_var 0) (pad_cons (pd_var 3) (pad_cons (pd_ixN rfl 4 pd_int) pad_nil)))))
  (psd_one (psd_set 4 sc_way_down.nd (pd_call rfl c_fallen hr (by decide) (pad_cons (pd_var 3) pad_nil)))))))
  (psd_one (psd_ret (pd_tup (pad_cons (pd_var 2) (pad_cons (pd_var 3) pad_nil)))))))))
abbrev s_row_of : Stmt := top 31
theorem sc_row_of : FnScope ["bonds", "word"] ["bonds", "word"] (defScope s_row_of) := ⟨rfl, rfl, rfl, by decide +kernel, rfl, by decide +kernel, by decide +kernel⟩
theorem w_row_of {P : Program} {w : World} {K : PySem.W.Frag} {mg : PySem.Str → Option Value} {base : Heap} {BC : Addr} (g_len : mg "len" = none) (c_row_behind : CalD P w K mg base 4 "row_behind" false (sp_row_behind BC)) (c_as_word : CalD P w K mg base 3 "as_word" false sp_as_word) (c_len_Bonds : LenD P w K mg base 1 BC (sp_len_Bonds BC)) (qual : PySem.Str) (f : Addr) (cdv : Value) (A : Around) (outer : List Env) (s : Shared) (H : Hp) (E : XK) (M : Option Mc) (X0 : List Addr)
    (hr : Room 4 (A.deeper (PyProof.Rows.envOfC qual (defScope s_row_of) s.heap.objs.size f cdv))) :
    PSs (cxOf CX0 P w K mg base ["bonds", "word"] qual (defScope s_row_of) f cdv A outer s H E).nox (defBody s_row_of) (LS ⟨K, M, X0, H, []⟩ (t_row_of BC)) :=
  (psd_one (psd_ret (pd_call rfl c_row_behind hr (by decide) (pad_cons (pd_var 0) (pad_cons (pd_call rfl c_as_word hr (by decide) (pad_cons (pd_var 1) (pad_cons (pd_lenO rfl g_len c_len_Bonds hr (by decide) (pd_var 0)) pad_nil))) pad_nil)))))
abbrev s_length : Stmt := top 32
theorem sc_length : FnScope ["bonds", "word"] ["bonds", "word"] (defScope s_length) := ⟨rfl, rfl, rfl, by decide +kernel, rfl, by decide +kernel, by decide +kernel⟩
theorem w_length {P : Program} {w : World} {K : PySem.W.Frag} {mg : PySem.Str → Option Value} {base : Heap} {BC : Addr} (g_len : mg "len" = none) (c_way_down : CalD P w K mg base 2 "way_down" false (sp_way_down BC)) (c_row_of : CalD P w K mg base 5 "row_of" false (sp_row_of BC)) (qual : PySem.Str) (f : Addr) (cdv : Value) (A : Around) (outer : List Env) (s : Shared) (H : Hp) (E : XK) (M : Option Mc) (X0 : List Addr)
    (hr : Room 5 (A.deeper (PyProof.Rows.envOfC qual (defScope s_length) s.heap.objs.size f cdv))) :
    PSs (cxOf CX0 P w K mg base ["bonds", "word"] qual (defScope s_length) f cdv A outer s H E).nox (defBody s_length) (LS ⟨K, M, X0, H, []⟩ (t_length BC)) :=
  (psd_one (psd_ret (pd_len rfl g_len (pd_ix rfl (pd_call rfl c_way_down hr (by decide) (pad_cons (pd_var 0) (pad_cons (pd_call rfl c_row_of hr (by decide) (pad_cons (pd_var 0) (pad_cons (pd_var 1) pad_nil))) pad_nil))) pd_int))))
abbrev s_check_led : Stmt := top 35
theorem sc_check_led : FnScope ["letters"] ["letters"] (defScope s_check_led) := ⟨rfl, rfl, rfl, by decide +kernel, rfl, by decide +kernel, by decide +kernel⟩
theorem w_check_led {P : Program} {w : World} {K : PySem.W.Frag} {mg : PySem.Str → Option Value} {base : Heap} (g_len : mg "len" = none) (g_MOST_LED : ∃ t, mg "MOST_LED" = some (.int (16) t)) (qual : PySem.Str) (f : Addr) (cdv : Value) (A : Around) (outer : List Env) (s : Shared) (H : Hp) (E : XK) (M : Option Mc) (X0 : List Addr)
    (hr : Room 0 (A.deeper (PyProof.Rows.envOfC qual (defScope s_check_led) s.heap.objs.size f cdv))) :
    PSs (cxOf CX0 P w K mg base ["letters"] qual (defScope s_check_led) f cdv A outer s H E).nox (defBody s_check_led) (LS ⟨K, M, X0, H, []⟩ t_check_led) :=
  (psd_one (psd_if (ptd_cmp op_gt fit_gt (pd_lenN rfl g_len 0) (pd_globE g_MOST_LED)) (psd_one psd_never) psd_nil))
abbrev s_is_shortest : Stmt := top 36
theorem sc_is_shortest : FnScope ["bonds", "word"] ["bonds", "word"] (defScope s_is_shortest) := ⟨rfl, rfl, rfl, by decide +kernel, rfl, by decide +kernel, by decide +kernel⟩
theorem w_is_shortest {P : Program} {w : World} {K : PySem.W.Frag} {mg : PySem.Str → Option Value} {base : Heap} {BC : Addr} (g_len : mg "len" = none) (c_length : CalD P w K mg base 6 "length" false (sp_length BC)) (qual : PySem.Str) (f : Addr) (cdv : Value) (A : Around) (outer : List Env) (s : Shared) (H : Hp) (E : XK) (M : Option Mc) (X0 : List Addr)
    (hr : Room 6 (A.deeper (PyProof.Rows.envOfC qual (defScope s_is_shortest) s.heap.objs.size f cdv))) :
    PSs (cxOf CX0 P w K mg base ["bonds", "word"] qual (defScope s_is_shortest) f cdv A outer s H E).nox (defBody s_is_shortest) (LS ⟨K, M, X0, H, []⟩ (t_is_shortest BC)) :=
  (psd_one (psd_ret (pd_cmp (OpR.or op_eq (op_eqD hr.units)) (fit_eq rfl) (pd_call rfl c_length hr (by decide) (pad_cons (pd_var 0) (pad_cons (pd_var 1) pad_nil))) (pd_lenN rfl g_len 1))))
abbrev s_row_to_spell : Stmt := top 38
theorem sc_row_to_spell : FnScope ["bonds", "word", "letters"] ["bonds", "word"] (defScope s_row_to_spell) := ⟨rfl, rfl, rfl, by decide +kernel, rfl, by decide +kernel, by decide +kernel⟩
theorem w_row_to_spell {P : Program} {w : World} {K : PySem.W.Frag} {mg : PySem.Str → Option Value} {base : Heap} {BC : Addr} (g_len : mg "len" = none) (c_as_word : CalD P w K mg base 3 "as_word" false sp_as_word) (c_check_led : CalD P w K mg base 1 "check_led" false sp_check_led) (c_row_behind : CalD P w K mg base 4 "row_behind" false (sp_row_behind BC)) (c_len_Bonds : LenD P w K mg base 1 BC (sp_len_Bonds BC)) (qual : PySem.Str) (f : Addr) (cdv : Value) (A : Around) (outer : List Env) (s : Shared) (H : Hp) (E : XK) (M : Option Mc) (X0 : List Addr)
    (hr : Room 4 (A.deeper (PyProof.Rows.envOfC qual (defScope s_row_to_spell) s.heap.objs.size f cdv))) :
    PSs (cxOf CX0 P w K mg base ["bonds", "word", "letters"] qual (defScope s_row_to_spell) f cdv A outer s H E).nox (defBody s_row_to_spell) (LS ⟨K, M, X0, H, []⟩ (t_row_to_spell BC)) :=
  (psd_cons (psd_set 2 sc_row_to_spell.nd (pd_call rfl c_as_word hr (by decide) (pad_cons (pd_var 1) (pad_cons (pd_lenO rfl g_len c_len_Bonds hr (by decide) (pd_var 0)) pad_nil))))
  (psd_cons (psd_expr (pd_call rfl c_check_led hr (by decide) (pad_cons (pd_var 2) pad_nil)))
  (psd_one (psd_ret (pd_call rfl c_row_behind hr (by decide) (pad_cons (pd_var 0) (pad_cons (pd_rev rfl (pd_var 2)) pad_nil)))))))
abbrev s_counted : Stmt := top 39
theorem sc_counted : FnScope ["bonds", "row", "known", "low", "parts", "letter"] ["bonds", "row", "known"] (defScope s_counted) := ⟨rfl, rfl, rfl, by decide +kernel, rfl, by decide +kernel, by decide +kernel⟩
theorem w_counted {P : Program} {w : World} {K : PySem.W.Frag} {mg : PySem.Str → Option Value} {base : Heap} {BC : Addr} (g_sum : mg "sum" = none) (c_fallen : CalD P w K mg base 1 "fallen" false sp_fallen) (c_pressed : CalD P w K mg base 1 "pressed" false (sp_pressed BC)) {n : Nat} (c_counted : CalDK P w K mg base (6 + n) "counted" (sp_countedN n BC)) (qual : PySem.Str) (f : Addr) (cdv : Value) (A : Around) (outer : List Env) (s : Shared) (H : Hp) (E : XK) {c : C} (hc : c.K = K) (ho : c.ow = []) 
    (hr : Room (6 + n) (A.deeper (PyProof.Rows.envOfC qual (defScope s_counted) s.heap.objs.size f cdv))) :
    PSs (cxOf CX0 P w K mg base ["bonds", "row", "known", "low", "parts", "letter"] qual (defScope s_counted) f cdv A outer s H E).nox (defBody s_counted) (LS c (t_countedN n BC)) :=
  (psd_memo hc hr 2 1 (psd_set 3 sc_counted.nd (pd_call hc c_fallen hr (by omega) (pad_cons (pd_var 1) pad_nil))) (psd_setLc 4 (own := [("letter", 5)]) rfl sc_counted.nd (pid_tup hc (pd_var 3)) (blkOk_by (N := ["bonds", "row", "known", "low", "parts", "letter"]) (sc := defScope s_counted) (by decide +kernel)) (fun sB HB CB clB fpB => (pgd_name 5 sc_counted.nd)) (fun sB HB CB clB fpB => pts_none) (fun sB HB CB clB fpB => (pd_callK hc c_counted hr (by omega) 2 (pd_var 0) (pd_call hc c_pressed hr (by omega) (pad_cons (pd_var 0) (pad_cons (pd_var 1) (pad_cons (pd_var 5) pad_nil))))))) (pd_if (pt_tru hc (pd_var 3)) (pd_sum hc g_sum rfl (pd_var 4)) pd_int))
abbrev s_count_shortest : Stmt := top 40
theorem sc_count_shortest : FnScope ["bonds", "word"] ["bonds", "word"] (defScope s_count_shortest) := ⟨rfl, rfl, rfl, by decide +kernel, rfl, by decide +kernel, by decide +kernel⟩
theorem w_count_shortest {P : Program} {w : World} {K : PySem.W.Frag} {mg : PySem.Str → Option Value} {base : Heap} {BC : Addr} (c_row_to_spell : CalD P w K mg base 5 "row_to_spell" false (sp_row_to_spell BC)) (c_counted : CalDK P w K mg base 26 "counted" (sp_counted BC)) (qual : PySem.Str) (f : Addr) (cdv : Value) (A : Around) (outer : List Env) (s : Shared) (H : Hp) (E : XK) (M : Option Mc) (X0 : List Addr)
    (hr : Room 26 (A.deeper (PyProof.Rows.envOfC qual (defScope s_count_shortest) s.heap.objs.size f cdv))) :
    PSs (cxOf CX0 P w K mg base ["bonds", "word"] qual (defScope s_count_shortest) f cdv A outer s H E).nox (defBody s_count_shortest) (LS ⟨K, M, X0, H, []⟩ (t_count_shortestP BC)) :=
  (psd_one (psd_ret (pd_callK0 rfl c_counted hr (by decide) (pd_var 0) (pd_call rfl c_row_to_spell hr (by decide) (pad_cons (pd_var 0) (pad_cons (pd_var 1) pad_nil))))))
abbrev s_word_at : Stmt := top 42
theorem sc_word_at : FnScope ["bonds", "word", "number", "row", "known", "letters", "ahead", "letter", "rest", "many"] ["bonds", "word", "number"] (defScope s_word_at) := ⟨rfl, rfl, rfl, by decide +kernel, rfl, by decide +kernel, by decide +kernel⟩
theorem w_word_at {P : Program} {w : World} {K : PySem.W.Frag} {mg : PySem.Str → Option Value} {base : Heap} {BC : Addr} (c_is_whole : CalD P w K mg base 1 "is_whole" false sp_is_whole) (c_counted : CalDK P w K mg base 26 "counted" (sp_counted BC)) (c_fallen : CalD P w K mg base 1 "fallen" false sp_fallen) (c_pressed : CalD P w K mg base 1 "pressed" false (sp_pressed BC)) (c_row_to_spell : CalD P w K mg base 5 "row_to_spell" false (sp_row_to_spell BC)) (qual : PySem.Str) (f : Addr) (cdv : Value) (A : Around) (outer : List Env) (s : Shared) (H : Hp) (E : XK) {c : C} (hc : c.K = K) (ho : c.ow = []) (hM : c.M = none) 
    (hr : Room 26 (A.deeper (PyProof.Rows.envOfC qual (defScope s_word_at) s.heap.objs.size f cdv))) :
    PSs (cxOf CX0 P w K mg base ["bonds", "word", "number", "row", "known", "letters", "ahead", "letter", "rest", "many"] qual (defScope s_word_at) f cdv A outer s H E).nox (defBody s_word_at) (LS c (t_word_at BC)) :=
  (psd_cons (psd_set 3 sc_word_at.nd (pd_call hc c_row_to_spell hr (by decide) (pad_cons (pd_var 0) (pad_cons (pd_var 1) pad_nil))))
  (psd_known hM 4 sc_word_at.nd fun c2 hc2 ho2 _ => (have hc : c2.K = K := hc2.trans hc; have ho := ho2.trans ho; (psd_cons (psd_if (PW.pt (pwd_or (ptd_not (pt_tru hc (pd_call hc c_is_whole hr (by decide) (pad_cons (pd_var 2) pad_nil)))) (pwd_or1 (ptd_not (ptd_chain op_le fit_le op_lt fit_lt pd_int (pd_var 2) (pd_callK hc c_counted hr (by decide) 4 (pd_var 0) (pd_var 3))))))) (psd_one psd_never) psd_nil)
  (psd_cons (psd_set 5 sc_word_at.nd (pd_tup pad_nil))
  (psd_cons (psd_set 6 sc_word_at.nd (pd_var 2))
  (psd_cons (psd_while PassesOwn.never (pt_tru hc (pd_call hc c_fallen hr (by decide) (pad_cons (pd_var 3) pad_nil))) (psd_cons (psd_for PassesOwn.never rfl (pid_tup hc (pd_call hc c_fallen hr (by decide) (pad_cons (pd_var 3) pad_nil))) (pgd_name 7 sc_word_at.nd) (psd_cons (psd_set 8 sc_word_at.nd (pd_call hc c_pressed hr (by decide) (pad_cons (pd_var 0) (pad_cons (pd_var 3) (pad_cons (pd_var 7) pad_nil)))))
  (psd_cons (psd_set 9 sc_word_at.nd (pd_callK hc c_counted hr (by decide) 4 (pd_var 0) (pd_var 8)))
  (psd_cons (psd_if (ptd_cmp op_lt fit_lt (pd_var 6) (pd_var 9)) (psd_one psd_break) psd_nil)
  (psd_one (psd_augS 6 sc_word_at.nd (pd_var 9)))))))
  (psd_cons (psd_augT hc 5 sc_word_at.nd (pd_tup (pad_cons (pd_var 7) pad_nil)))
  (psd_one (psd_set 3 sc_word_at.nd (pd_var 8))))))
  (psd_one (psd_ret (pd_var 5))))))))))
abbrev s_word_number : Stmt := top 43
theorem sc_word_number : FnScope ["bonds", "word", "row", "known", "number", "letter", "ahead", "less", "rest"] ["bonds", "word"] (defScope s_word_number) := ⟨rfl, rfl, rfl, by decide +kernel, rfl, by decide +kernel, by decide +kernel⟩
theorem w_word_number {P : Program} {w : World} {K : PySem.W.Frag} {mg : PySem.Str → Option Value} {base : Heap} {BC : Addr} (g_sum : mg "sum" = none) (c_fallen : CalD P w K mg base 1 "fallen" false sp_fallen) (c_pressed : CalD P w K mg base 1 "pressed" false (sp_pressed BC)) (c_counted : CalDK P w K mg base 26 "counted" (sp_counted BC)) (c_row_to_spell : CalD P w K mg base 5 "row_to_spell" false (sp_row_to_spell BC)) (c_is_shortest : CalD P w K mg base 7 "is_shortest" false (sp_is_shortest BC)) (qual : PySem.Str) (f : Addr) (cdv : Value) (A : Around) (outer : List Env) (s : Shared) (H : Hp) (E : XK) {c : C} (hc : c.K = K) (ho : c.ow = []) (hM : c.M = none) 
    (hr : Room 26 (A.deeper (PyProof.Rows.envOfC qual (defScope s_word_number) s.heap.objs.size f cdv))) :
    PSs (cxOf CX0 P w K mg base ["bonds", "word", "row", "known", "number", "letter", "ahead", "less", "rest"] qual (defScope s_word_number) f cdv A outer s H E).nox (defBody s_word_number) (LS c (t_word_numberP BC)) :=
  (psd_cons (psd_set 2 sc_word_number.nd (pd_call hc c_row_to_spell hr (by decide) (pad_cons (pd_var 0) (pad_cons (pd_var 1) pad_nil))))
  (psd_cons (psd_if (ptd_not (pt_tru hc (pd_call hc c_is_shortest hr (by decide) (pad_cons (pd_var 0) (pad_cons (pd_var 1) pad_nil))))) (psd_one psd_never) psd_nil)
  (psd_known hM 3 sc_word_number.nd fun c2 hc2 ho2 _ => (have hc : c2.K = K := hc2.trans hc; have ho := ho2.trans ho; (psd_cons (psd_set 4 sc_word_number.nd pd_int)
  (psd_cons (psd_for PassesOwn.never rfl (pid_seq hc (pd_var 1)) (pgd_name 5 sc_word_number.nd) (psd_cons (psd_setLc 6 (own := [("less", 7)]) rfl sc_word_number.nd (pid_tup hc (pd_call hc c_fallen hr (by decide) (pad_cons (pd_var 2) pad_nil))) (blkOk_by (N := ["bonds", "word", "row", "known", "number", "letter", "ahead", "less", "rest"]) (sc := defScope s_word_number) (by decide +kernel)) (fun sB HB CB clB fpB => (pgd_name 7 sc_word_number.nd)) (fun sB HB CB clB fpB => (ptsd_one (ptd_cmp op_lt fit_lt (pd_var 7) (pd_var 5)))) (fun sB HB CB clB fpB => (pd_call hc c_pressed hr (by decide) (pad_cons (pd_var 0) (pad_cons (pd_var 2) (pad_cons (pd_var 7) pad_nil))))))
  (psd_cons (psd_augA 4 sc_word_number.nd (pd_sum hc g_sum rfl (pd_fr (pdf_lc (own := [("rest", 8)]) rfl sc_word_number.nd (pid_list hc (pd_var 6)) (blkOk_by (N := ["bonds", "word", "row", "known", "number", "letter", "ahead", "less", "rest"]) (sc := defScope s_word_number) (by decide +kernel)) (fun sB HB CB clB fpB => (pgd_name 8 sc_word_number.nd)) (fun sB HB CB clB fpB => pts_none) (fun sB HB CB clB fpB => (pd_callK hc c_counted hr (by decide) 3 (pd_var 0) (pd_var 8)))))))
  (psd_one (psd_set 2 sc_word_number.nd (pd_call hc c_pressed hr (by decide) (pad_cons (pd_var 0) (pad_cons (pd_var 2) (pad_cons (pd_var 5) pad_nil)))))))))
  (psd_one (psd_ret (pd_var 4)))))))))
abbrev s__law_mixed : Stmt := top 45
theorem sc__law_mixed : FnScope ["cell", "n", "blend"] ["cell", "n"] (defScope s__law_mixed) := ⟨rfl, rfl, rfl, by decide +kernel, rfl, by decide +kernel, by decide +kernel⟩
theorem w__law_mixed {P : Program} {w : World} {K : PySem.W.Frag} {mg : PySem.Str → Option Value} {base : Heap} (g_int : mg "int" = none) (qual : PySem.Str) (f : Addr) (cdv : Value) (A : Around) (outer : List Env) (s : Shared) (H : Hp) (E : XK) (M : Option Mc) (X0 : List Addr)
    (hr : Room 0 (A.deeper (PyProof.Rows.envOfC qual (defScope s__law_mixed) s.heap.objs.size f cdv))) :
    PSs (cxOf CX0 P w K mg base ["cell", "n", "blend"] qual (defScope s__law_mixed) f cdv A outer s H E).nox (defBody s__law_mixed) (LS ⟨K, M, X0, H, []⟩ t__law_mixed) :=
  (psd_cons (psd_set 2 sc__law_mixed.nd (pd_add rfl (pd_add rfl (pd_mod (pd_int1 g_int (pd_mul rfl (pd_mul rfl (pd_var 0) (pd_add rfl pd_int (pd_mul rfl pd_int (pd_var 1)))) pd_int)) pd_int) (pd_mul rfl (pd_mul rfl pd_int (pd_var 1)) (pd_var 1))) (pd_mul rfl pd_int (pd_var 1))))
  (psd_one (psd_ret (pd_div (pd_mod (pd_int1 g_int (pd_mul rfl (pd_var 2) pd_int)) pd_int) pd_int))))
abbrev s__law_folded : Stmt := top 46
abbrev s__law_draw : Stmt := top 47
abbrev s__law_begun : Stmt := top 48
abbrev s__law_table : Stmt := top 49
theorem sc__law_table : FnScope ["m", "most", "many", "way", "rows", "a", "b", "kind"] ["m", "most"] (defScope s__law_table) := ⟨rfl, rfl, rfl, by decide +kernel, rfl, by decide +kernel, by decide +kernel⟩
abbrev s__law_weight : Stmt := top 50
theorem sc__law_weight : FnScope ["rows", "a", "b", "low", "high"] ["rows", "a", "b"] (defScope s__law_weight) := ⟨rfl, rfl, rfl, by decide +kernel, rfl, by decide +kernel, by decide +kernel⟩
theorem w__law_weight {P : Program} {w : World} {K : PySem.W.Frag} {mg : PySem.Str → Option Value} {base : Heap}  (qual : PySem.Str) (f : Addr) (cdv : Value) (A : Around) (outer : List Env) (s : Shared) (H : Hp) (E : XK) (M : Option Mc) (X0 : List Addr)
    (hr : Room 0 (A.deeper (PyProof.Rows.envOfC qual (defScope s__law_weight) s.heap.objs.size f cdv))) :
    PSs (cxOf CX0 P w K mg base ["rows", "a", "b", "low", "high"] qual (defScope s__law_weight) f cdv A outer s H E).nox (defBody s__law_weight) (LS ⟨K, M, X0, H, []⟩ t__law_weight) :=
  (psd_cons (psd_if (ptd_cmp (OpR.or op_eq (op_eqD hr.units)) (fit_eq rfl) (pd_var 1) (pd_var 2)) (psd_one (psd_ret (pd_sub pd_int pd_int))) psd_nil)
  (psd_cons (psd_asg (pd_dix rfl hr (pdp_cons (pd_tup (pad_cons pd_int (pad_cons pd_int pad_nil))) (pdp_cons (pd_tup (pad_cons pd_int (pad_cons pd_int pad_nil))) (pdp_cons (pd_tup (pad_cons pd_int (pad_cons pd_int pad_nil))) (pdp_cons (pd_tup (pad_cons pd_int (pad_cons pd_int pad_nil))) (pdp_cons (pd_tup (pad_cons pd_int (pad_cons pd_int pad_nil))) pdp_nil))))) (pd_ix rfl (pd_ixN rfl 0 (pd_sub (pd_var 1) pd_int)) (pd_sub (pd_var 2) pd_int))) (pgd_tup rfl rfl (pgds_cons (pgd_name 3 sc__law_weight.nd) (pgds_cons (pgd_name 4 sc__law_weight.nd) pgds_nil))))
  (psd_one (psd_ret (pd_if (ptd_cmp op_lt fit_lt (pd_var 1) (pd_var 2)) (pd_var 3) (pd_var 4))))))
abbrev s__law_press : Stmt := top 51
theorem sc__law_press : FnScope ["rows", "row", "a", "b"] ["rows", "row", "a"] (defScope s__law_press) := ⟨rfl, rfl, rfl, by decide +kernel, rfl, by decide +kernel, by decide +kernel⟩
theorem w__law_press {P : Program} {w : World} {K : PySem.W.Frag} {mg : PySem.Str → Option Value} {base : Heap} (g_tuple : mg "tuple" = none) (g_range : mg "range" = none) (g_len : mg "len" = none) (c__law_weight : CalD P w K mg base 1 "_law_weight" false sp__law_weight) (qual : PySem.Str) (f : Addr) (cdv : Value) (A : Around) (outer : List Env) (s : Shared) (H : Hp) (E : XK) (M : Option Mc) (X0 : List Addr)
    (hr : Room 1 (A.deeper (PyProof.Rows.envOfC qual (defScope s__law_press) s.heap.objs.size f cdv))) :
    PSs (cxOf CX0 P w K mg base ["rows", "row", "a", "b"] qual (defScope s__law_press) f cdv A outer s H E).nox (defBody s__law_press) (LS ⟨K, M, X0, H, []⟩ t__law_press) :=
  (psd_one (psd_ret (pd_tupOf rfl g_tuple (pd_fr (pdf_lc (own := [("b", 3)]) rfl sc__law_press.nd (pid_r1 g_range (pd_lenN rfl g_len 0)) (blkOk_by (N := ["rows", "row", "a", "b"]) (sc := defScope s__law_press) (by decide +kernel)) (fun sB HB CB clB fpB => (pgd_name 3 sc__law_press.nd)) (fun sB HB CB clB fpB => pts_none) (fun sB HB CB clB fpB => (pd_add rfl (pd_ixN rfl 1 (pd_var 3)) (pd_mul rfl (pd_call rfl c__law_weight hr (by decide) (pad_cons (pd_var 0) (pad_cons (pd_var 2) (pad_cons (pd_add rfl (pd_var 3) pd_int) pad_nil)))) (pd_ixN rfl 1 (pd_sub (pd_var 2) pd_int))))))))))
abbrev s__law_row : Stmt := top 52
theorem sc__law_row : FnScope ["rows", "word", "row", "letter"] ["rows", "word"] (defScope s__law_row) := ⟨rfl, rfl, rfl, by decide +kernel, rfl, by decide +kernel, by decide +kernel⟩
theorem w__law_row {P : Program} {w : World} {K : PySem.W.Frag} {mg : PySem.Str → Option Value} {base : Heap} (g_len : mg "len" = none) (c__law_press : CalD P w K mg base 2 "_law_press" false sp__law_press) (qual : PySem.Str) (f : Addr) (cdv : Value) (A : Around) (outer : List Env) (s : Shared) (H : Hp) (E : XK) (M : Option Mc) (X0 : List Addr)
    (hr : Room 2 (A.deeper (PyProof.Rows.envOfC qual (defScope s__law_row) s.heap.objs.size f cdv))) :
    PSs (cxOf CX0 P w K mg base ["rows", "word", "row", "letter"] qual (defScope s__law_row) f cdv A outer s H E).nox (defBody s__law_row) (LS ⟨K, M, X0, H, []⟩ t__law_row) :=
  (psd_cons (psd_set 2 sc__law_row.nd (pd_mul rfl (pd_tup (pad_cons pd_int pad_nil)) (pd_lenN rfl g_len 0)))
  (psd_cons (psd_for PassesOwn.never rfl (pid_tup rfl (pd_var 1)) (pgd_name 3 sc__law_row.nd) (psd_one (psd_set 2 sc__law_row.nd (pd_call rfl c__law_press hr (by decide) (pad_cons (pd_var 0) (pad_cons (pd_var 2) (pad_cons (pd_var 3) pad_nil)))))))
  (psd_one (psd_ret (pd_var 2)))))
abbrev s__law_below : Stmt := top 53
theorem sc__law_below : FnScope ["row", "b"] ["row"] (defScope s__law_below) := ⟨rfl, rfl, rfl, by decide +kernel, rfl, by decide +kernel, by decide +kernel⟩
theorem w__law_below {P : Program} {w : World} {K : PySem.W.Frag} {mg : PySem.Str → Option Value} {base : Heap} (g_range : mg "range" = none) (g_len : mg "len" = none) (qual : PySem.Str) (f : Addr) (cdv : Value) (A : Around) (outer : List Env) (s : Shared) (H : Hp) (E : XK) (M : Option Mc) (X0 : List Addr)
    (hr : Room 0 (A.deeper (PyProof.Rows.envOfC qual (defScope s__law_below) s.heap.objs.size f cdv))) :
    PSs (cxOf CX0 P w K mg base ["row", "b"] qual (defScope s__law_below) f cdv A outer s H E).nox (defBody s__law_below) (LS ⟨K, M, X0, H, []⟩ t__law_below) :=
  (psd_one (psd_ret (pd_fr (pdf_lc (own := [("b", 1)]) rfl sc__law_below.nd (pid_r1 g_range (pd_lenN rfl g_len 0)) (blkOk_by (N := ["row", "b"]) (sc := defScope s__law_below) (by decide +kernel)) (fun sB HB CB clB fpB => (pgd_name 1 sc__law_below.nd)) (fun sB HB CB clB fpB => (ptsd_one (ptd_cmp op_lt fit_lt (pd_ixN rfl 0 (pd_var 1)) pd_int))) (fun sB HB CB clB fpB => (pd_add rfl (pd_var 1) pd_int))))))
abbrev s__law_least : Stmt := top 54
theorem sc__law_least : FnScope ["rows", "word", "found", "here"] ["rows", "word"] (defScope s__law_least) := ⟨rfl, rfl, rfl, by decide +kernel, rfl, by decide +kernel, by decide +kernel⟩
theorem w__law_least {P : Program} {w : World} {K : PySem.W.Frag} {mg : PySem.Str → Option Value} {base : Heap} (g_tuple : mg "tuple" = none) (c__law_row : CalD P w K mg base 3 "_law_row" false sp__law_row) (c__law_below : CalD P w K mg base 1 "_law_below" false sp__law_below) (c__law_press : CalD P w K mg base 2 "_law_press" false sp__law_press) (qual : PySem.Str) (f : Addr) (cdv : Value) (A : Around) (outer : List Env) (s : Shared) (H : Hp) (E : XK) (M : Option Mc) (X0 : List Addr)
    (hr : Room 3 (A.deeper (PyProof.Rows.envOfC qual (defScope s__law_least) s.heap.objs.size f cdv))) :
    PSs (cxOf CX0 P w K mg base ["rows", "word", "found", "here"] qual (defScope s__law_least) f cdv A outer s H E).nox (defBody s__law_least) (LS ⟨K, M, X0, H, [2]⟩ t__law_least) :=
  (psd_cons (psd_par2 2 3 rfl sc__law_least.nd (pax_own (pdf_lst pad_nil) (pax_dat (pd_call rfl c__law_row hr (by decide) (pad_cons (pd_var 0) (pad_cons (pd_rev rfl (pd_var 1)) pad_nil))) pax_nil)))
  (psd_cons (psd_while PassesOwn.never (ptd_cmp (OpR.or op_ne (op_neD hr.units)) (fit_ne rfl) (pd_call rfl c__law_below hr (by decide) (pad_cons (pd_var 3) pad_nil)) (pd_fr (pdf_lst pad_nil))) (psd_cons (psd_app 2 (pd_ix rfl (pd_call rfl c__law_below hr (by decide) (pad_cons (pd_var 3) pad_nil)) pd_int))
  (psd_one (psd_set 3 sc__law_least.nd (pd_call rfl c__law_press hr (by decide) (pad_cons (pd_var 0) (pad_cons (pd_var 3) (pad_cons (pd_ixN rfl 2 pd_negc) pad_nil))))))))
  (psd_one (psd_ret (pd_tupN rfl g_tuple 2)))))
abbrev s__law_word : Stmt := top 55
theorem sc__law_word : FnScope ["m", "rows", "most", "found", "way", "here", "n", "letter", "some", "b"] ["m", "rows", "most"] (defScope s__law_word) := ⟨rfl, rfl, rfl, by decide +kernel, rfl, by decide +kernel, by decide +kernel⟩
theorem w__law_word {P : Program} {w : World} {K : PySem.W.Frag} {mg : PySem.Str → Option Value} {base : Heap} (g_len : mg "len" = none) (g_range : mg "range" = none) (g_tuple : mg "tuple" = none) (c__law_draw : CalD P w K mg base 2 "_law_draw" true sp__law_draw) (c__law_press : CalD P w K mg base 2 "_law_press" false sp__law_press) (qual : PySem.Str) (f : Addr) (cdv : Value) (A : Around) (outer : List Env) (s : Shared) (H : Hp) (E : XK) (M : Option Mc) (X0 : List Addr)
    (hr : Room 2 (A.deeper (PyProof.Rows.envOfC qual (defScope s__law_word) s.heap.objs.size f cdv))) :
    PSs (cxOf CX0 P w K mg base ["m", "rows", "most", "found", "way", "here", "n", "letter", "some", "b"] qual (defScope s__law_word) f cdv A outer s H E).nox (defBody s__law_word) (LS ⟨K, M, X0, H, [3]⟩ t__law_word) :=
  (psd_cons (psd_tar3 rfl 3 4 5 rfl sc__law_word.nd (pax_own (pdf_lst pad_nil) (pax_dat (pd_callM rfl c__law_draw hr (by decide) 0 (pad_cons pd_int pad_nil)) (pax_dat (pd_mul rfl (pd_tup (pad_cons pd_int pad_nil)) (pd_lenN rfl g_len 1)) pax_nil))))
  (psd_cons (psd_for PassesOwn.never rfl (pid_r1 g_range (pd_callM rfl c__law_draw hr (by decide) 0 (pad_cons (pd_add rfl (pd_var 2) pd_int) pad_nil))) (pgd_name 6 sc__law_word.nd) (psd_cons (psd_set 7 sc__law_word.nd (pd_add rfl pd_int (pd_callM rfl c__law_draw hr (by decide) 0 (pad_cons (pd_lenN rfl g_len 1) pad_nil))))
  (psd_cons (psd_if (PW.pt (pwd_and (ptd_cmp op_gt fit_gt (pd_var 4) pd_int) (pwd_and (ptd_cmp op_lt fit_lt (pd_ixN rfl 5 (pd_sub (pd_var 7) pd_int)) pd_int) (pwd_and1 (ptd_cmp op_gt fit_gt (pd_callM rfl c__law_draw hr (by decide) 0 (pad_cons pd_int pad_nil)) pd_int))))) (psd_cons (psd_setLc 8 (own := [("b", 9)]) rfl sc__law_word.nd (pid_r1 g_range (pd_lenN rfl g_len 1)) (blkOk_by (N := ["m", "rows", "most", "found", "way", "here", "n", "letter", "some", "b"]) (sc := defScope s__law_word) (by decide +kernel)) (fun sB HB CB clB fpB => (pgd_name 9 sc__law_word.nd)) (fun sB HB CB clB fpB => (ptsd_one (ptd_cmp op_gt fit_gt (pd_ixN rfl 5 (pd_var 9)) pd_int))) (fun sB HB CB clB fpB => (pd_add rfl (pd_var 9) pd_int)))
  (psd_one (psd_set 7 sc__law_word.nd (pd_if (ptd_cmp (OpR.or op_ne (op_neD hr.units)) (fit_ne rfl) (pd_var 8) (pd_fr (pdf_lst pad_nil))) (pd_ixN rfl 8 (pd_callM rfl c__law_draw hr (by decide) 0 (pad_cons (pd_lenN rfl g_len 8) pad_nil))) (pd_var 7))))) psd_nil)
  (psd_cons (psd_app 3 (pd_var 7))
  (psd_one (psd_set 5 sc__law_word.nd (pd_call rfl c__law_press hr (by decide) (pad_cons (pd_var 1) (pad_cons (pd_var 5) (pad_cons (pd_var 7) pad_nil))))))))))
  (psd_one (psd_ret (pd_tupN rfl g_tuple 3)))))
abbrev s__law_stretch : Stmt := top 56
theorem sc__law_stretch : FnScope ["a", "b", "many", "n"] ["a", "b", "many"] (defScope s__law_stretch) := ⟨rfl, rfl, rfl, by decide +kernel, rfl, by decide +kernel, by decide +kernel⟩
theorem w__law_stretch {P : Program} {w : World} {K : PySem.W.Frag} {mg : PySem.Str → Option Value} {base : Heap} (g_tuple : mg "tuple" = none) (g_range : mg "range" = none) (g_int : mg "int" = none) (qual : PySem.Str) (f : Addr) (cdv : Value) (A : Around) (outer : List Env) (s : Shared) (H : Hp) (E : XK) (M : Option Mc) (X0 : List Addr)
    (hr : Room 0 (A.deeper (PyProof.Rows.envOfC qual (defScope s__law_stretch) s.heap.objs.size f cdv))) :
    PSs (cxOf CX0 P w K mg base ["a", "b", "many", "n"] qual (defScope s__law_stretch) f cdv A outer s H E).nox (defBody s__law_stretch) (LS ⟨K, M, X0, H, []⟩ t__law_stretch) :=
  (psd_one (psd_ret (pd_tupOf rfl g_tuple (pd_fr (pdf_lc (own := [("n", 3)]) rfl sc__law_stretch.nd (pid_r1 g_range (pd_var 2)) (blkOk_by (N := ["a", "b", "many", "n"]) (sc := defScope s__law_stretch) (by decide +kernel)) (fun sB HB CB clB fpB => (pgd_name 3 sc__law_stretch.nd)) (fun sB HB CB clB fpB => pts_none) (fun sB HB CB clB fpB => (pd_ix rfl (pd_fr (pdf_lst (pad_cons (pd_var 0) (pad_cons (pd_var 1) pad_nil)))) (pd_mod (pd_int1 g_int (pd_var 3)) pd_int))))))))
abbrev s__law_moved : Stmt := top 57
theorem sc__law_moved : FnScope ["rows", "word", "deed", "k", "a", "b", "many"] ["rows", "word", "deed"] (defScope s__law_moved) := ⟨rfl, rfl, rfl, by decide +kernel, rfl, by decide +kernel, by decide +kernel⟩
theorem w__law_moved {P : Program} {w : World} {K : PySem.W.Frag} {mg : PySem.Str → Option Value} {base : Heap} (g_len : mg "len" = none) (c__law_stretch : CalD P w K mg base 1 "_law_stretch" false sp__law_stretch) (qual : PySem.Str) (f : Addr) (cdv : Value) (A : Around) (outer : List Env) (s : Shared) (H : Hp) (E : XK) (M : Option Mc) (X0 : List Addr)
    (hr : Room 1 (A.deeper (PyProof.Rows.envOfC qual (defScope s__law_moved) s.heap.objs.size f cdv))) :
    PSs (cxOf CX0 P w K mg base ["rows", "word", "deed", "k", "a", "b", "many"] qual (defScope s__law_moved) f cdv A outer s H E).nox (defBody s__law_moved) (LS ⟨K, M, X0, H, []⟩ t__law_moved) :=
  (psd_cons (psd_set 3 sc__law_moved.nd (pd_ixN rfl 2 pd_int))
  (psd_cons (psd_if (ptd_cmp (OpR.or op_eq (op_eqD hr.units)) (fit_eq rfl) (pd_ixN rfl 2 pd_int) pd_str) (psd_one (psd_ret (pd_add rfl (pd_add rfl (pd_slice rfl (pd_var 1) pod_none (pod_some (pd_var 3))) (pd_tup (pad_cons (pd_ixN rfl 2 pd_int) (pad_cons (pd_ixN rfl 2 pd_int) pad_nil)))) (pd_slice rfl (pd_var 1) (pod_some (pd_var 3)) pod_none)))) psd_nil)
  (psd_cons (psd_if (PW.pt (pwd_or (ptd_cmp op_ge fit_ge (pd_add rfl (pd_var 3) pd_int) (pd_lenN rfl g_len 1)) (pwd_or1 (ptd_cmp (OpR.or op_ne (op_neD hr.units)) (fit_ne rfl) (pd_cmp (OpR.or op_eq (op_eqD hr.units)) (fit_eq rfl) (pd_ixN rfl 1 (pd_var 3)) (pd_ixN rfl 1 (pd_add rfl (pd_var 3) pd_int))) (pd_cmp (OpR.or op_eq (op_eqD hr.units)) (fit_eq rfl) (pd_ixN rfl 2 pd_int) pd_str))))) (psd_one (psd_ret pd_non)) psd_nil)
  (psd_cons (psd_if (ptd_cmp (OpR.or op_eq (op_eqD hr.units)) (fit_eq rfl) (pd_ixN rfl 2 pd_int) pd_str) (psd_one (psd_ret (pd_add rfl (pd_slice rfl (pd_var 1) pod_none (pod_some (pd_var 3))) (pd_slice rfl (pd_var 1) (pod_some (pd_add rfl (pd_var 3) pd_int)) pod_none)))) psd_nil)
  (psd_cons (psd_par2 4 5 rfl sc__law_moved.nd (pax_dat (pd_ixN rfl 1 (pd_var 3)) (pax_dat (pd_ixN rfl 1 (pd_add rfl (pd_var 3) pd_int)) pax_nil)))
  (psd_cons (psd_set 6 sc__law_moved.nd (pd_ix rfl (pd_ixN rfl 0 (pd_sub (pd_var 4) pd_int)) (pd_sub (pd_var 5) pd_int)))
  (psd_cons (psd_if (PW.pt (pwd_or (ptd_cmp (OpR.or op_eq (op_eqD hr.units)) (fit_eq rfl) (pd_var 6) pd_int) (pwd_or1 (ptd_cmp (OpR.or op_ne (op_neD hr.units)) (fit_ne rfl) (pd_slice rfl (pd_var 1) (pod_some (pd_var 3)) (pod_some (pd_add rfl (pd_var 3) (pd_var 6)))) (pd_call rfl c__law_stretch hr (by decide) (pad_cons (pd_var 4) (pad_cons (pd_var 5) (pad_cons (pd_var 6) pad_nil)))))))) (psd_one (psd_ret pd_non)) psd_nil)
  (psd_one (psd_ret (pd_add rfl (pd_add rfl (pd_slice rfl (pd_var 1) pod_none (pod_some (pd_var 3))) (pd_call rfl c__law_stretch hr (by decide) (pad_cons (pd_var 5) (pad_cons (pd_var 4) (pad_cons (pd_var 6) pad_nil))))) (pd_slice rfl (pd_var 1) (pod_some (pd_add rfl (pd_var 3) (pd_var 6))) pod_none)))))))))))
abbrev s__law_turned_all : Stmt := top 58
theorem sc__law_turned_all : FnScope ["rows", "word", "known", "layer", "later", "here", "k", "found"] ["rows", "word"] (defScope s__law_turned_all) := ⟨rfl, rfl, rfl, by decide +kernel, rfl, by decide +kernel, by decide +kernel⟩
theorem w__law_turned_all {P : Program} {w : World} {K : PySem.W.Frag} {mg : PySem.Str → Option Value} {base : Heap} (g_range : mg "range" = none) (g_len : mg "len" = none) (g_sorted : mg "sorted" = none) (g_list : mg "list" = none) (c__law_moved : CalD P w K mg base 2 "_law_moved" false sp__law_moved) (qual : PySem.Str) (f : Addr) (cdv : Value) (A : Around) (outer : List Env) (s : Shared) (H : Hp) (E : XK) (M : Option Mc) (X0 : List Addr)
    (hr : Room 2 (A.deeper (PyProof.Rows.envOfC qual (defScope s__law_turned_all) s.heap.objs.size f cdv))) :
    PSs (cxOf CX0 P w K mg base ["rows", "word", "known", "layer", "later", "here", "k", "found"] qual (defScope s__law_turned_all) f cdv A outer s H E).nox (defBody s__law_turned_all) (LS ⟨K, M, X0, H, [2, 4]⟩ t__law_turned_all) :=
  (psd_dctP hr rfl rfl 2 3 sc__law_turned_all.nd (pd_var 1) (pd_fr (pdf_lst (pad_cons (pd_var 1) pad_nil)))
  (pss_ddc (ps_ddwhile PassesOwn.never (ptd_cmp (OpR.or op_ne (op_neD hr.units)) (fit_ne rfl) (pd_var 3) (pd_fr (pdf_lst pad_nil))) (pss_ddc (ps_ddsetO 4 sc__law_turned_all.nd (pdf_lst pad_nil))
  (pss_ddc (ps_ddfor PassesOwn.never rfl (pid_list rfl (pd_var 3)) (pgd_name 5 sc__law_turned_all.nd) (by decide) (pss_dd1 (ps_ddfor PassesOwn.never rfl (pid_r1 g_range (pd_sub (pd_lenN rfl g_len 5) pd_int)) (pgd_name 6 sc__law_turned_all.nd) (by decide) (pss_ddc (ps_ddset 7 sc__law_turned_all.nd (pd_call rfl c__law_moved hr (by decide) (pad_cons (pd_var 0) (pad_cons (pd_var 5) (pad_cons (pd_tup (pad_cons pd_str (pad_cons (pd_var 6) pad_nil))) pad_nil)))))
  (pss_dd1 (ps_ddif (PW.pt (pw_ddand (pt_dd (ptd_cmp (OpR.or op_notN op_notBl) fit_isnot (pd_var 7) pd_non)) (pw_ddand1 (pt_ddnin hr rfl (pd_var 7))))) (pss_ddc (ps_ddput hr rfl (pd_var 7))
  (pss_dd1 (ps_ddapp 4 (pd_var 7)))) pss_ddnil))))))
  (pss_dd1 (ps_ddfz 3 4 sc__law_turned_all.nd)))))
  (pss_dd1 (ps_ddretL hr rfl rfl g_sorted g_list))))
end BW
namespace BW
open PySem L2 DL
abbrev s_shortest_words : Stmt := top 41
theorem sg_shortest_words : GScope ["bonds", "word", "waiting", "front", "row", "low", "letter"] ["bonds", "word"] (defScope s_shortest_words) := ⟨rfl, rfl, rfl, by decide +kernel, rfl, by decide +kernel, by decide +kernel⟩
theorem wG_shortest_words {P : Program} {w : World} {K : PySem.W.Frag} {mg : PySem.Str → Option Value} {base : Heap} {BC : Addr} (g_reversed : mg "reversed" = none) (c_row_to_spell : CalD P w K mg base 5 "row_to_spell" false (sp_row_to_spell BC)) (c_fallen : CalD P w K mg base 1 "fallen" false sp_fallen) (c_pressed : CalD P w K mg base 1 "pressed" false (sp_pressed BC)) (f : Addr) (cdv : Value) (A : Around) (outer : List Env) (s : Shared) (H : Hp) (E : XK) (pn : List (Addr × Obj)) (X0 : List Addr) (Ex : EX)
    (hr : Room 5 (A.deeper (PyProof.Rows.envOfC "shortest_words" (defScope s_shortest_words) s.heap.objs.size f cdv))) (tk : Takes (gcxOf P w K mg base ["bonds", "word", "waiting", "front", "row", "low", "letter"] "shortest_words" (defScope s_shortest_words) f cdv A outer s H E pn) (WL ⟨K, none, X0, H, [2]⟩ Ex)) :
    GSs (gcxOf P w K mg base ["bonds", "word", "waiting", "front", "row", "low", "letter"] "shortest_words" (defScope s_shortest_words) f cdv A outer s H E pn) (defBody s_shortest_words) (LGn ⟨K, none, X0, H, [2]⟩ (tG_shortest_words BC Ex)) :=
  (gd_cons (gd_plain (psd_setO 2 rfl sg_shortest_words.nd (pdf_lst (pad_cons (pd_tup (pad_cons (pd_tup pad_nil) (pad_cons (pd_call rfl c_row_to_spell hr (by decide) (pad_cons (pd_var 0) (pad_cons (pd_var 1) pad_nil))) pad_nil))) pad_nil))))
  (gd_one (gd_while owns_gcx (pt_truN rfl 2) (gd_cons (gd_plain (psd_popA 2 (pgd_tup rfl rfl (pgds_cons (pgd_name 3 sg_shortest_words.nd) (pgds_cons (pgd_name 4 sg_shortest_words.nd) pgds_nil)))))
  (gd_cons (gd_plain (psd_set 5 sg_shortest_words.nd (pd_call rfl c_fallen hr (by decide) (pad_cons (pd_var 4) pad_nil))))
  (gd_cons (gd_if (ptd_not (pt_tru rfl (pd_var 5))) (gd_one (gd_yield (pd_var 3))) gd_nil)
  (gd_one (gd_plain (psd_for owns_gcx rfl (pid_rvT rfl g_reversed (pd_var 5)) (pgd_name 6 sg_shortest_words.nd) (psd_one (psd_app 2 (pd_tup (pad_cons (pd_tup (pad_star rfl (pd_var 3) (pad_cons (pd_var 6) pad_nil))) (pad_cons (pd_call rfl c_pressed hr (by decide) (pad_cons (pd_var 0) (pad_cons (pd_var 4) (pad_cons (pd_var 6) pad_nil)))) pad_nil))))))))))))))
theorem wZ_shortest_words {P : Program} {w : World} {K : PySem.W.Frag} {mg : PySem.Str → Option Value} {base : Heap} {BC : Addr} (g_reversed : mg "reversed" = none) (c_row_to_spell : CalD P w K mg base 5 "row_to_spell" false (sp_row_to_spell BC)) (c_fallen : CalD P w K mg base 1 "fallen" false sp_fallen) (c_pressed : CalD P w K mg base 1 "pressed" false (sp_pressed BC)) (f : Addr) (cdv : Value) (A : Around) (outer : List Env) (s : Shared) (H : Hp) (E : XK) (pn : List (Addr × Obj)) (X0 : List Addr)
    (hr : Room 5 (A.deeper (PyProof.Rows.envOfC "shortest_words" (defScope s_shortest_words) s.heap.objs.size f cdv))) :
    WZ (gcxOf P w K mg base ["bonds", "word", "waiting", "front", "row", "low", "letter"] "shortest_words" (defScope s_shortest_words) f cdv A outer s H E pn) (execs (defBody s_shortest_words) (gcxOf P w K mg base ["bonds", "word", "waiting", "front", "row", "low", "letter"] "shortest_words" (defScope s_shortest_words) f cdv A outer s H E pn).env) (LZn ⟨K, none, X0, H, [2]⟩ (tZ_shortest_words BC)) :=
  (zd_cons (zd_plain (psd_setO 2 rfl sg_shortest_words.nd (pdf_lst (pad_cons (pd_tup (pad_cons (pd_tup pad_nil) (pad_cons (pd_call rfl c_row_to_spell hr (by decide) (pad_cons (pd_var 0) (pad_cons (pd_var 1) pad_nil))) pad_nil))) pad_nil))))
  (zd_one (zd_while owns_gcx (pt_truN rfl 2) (zd_cons (zd_plain (psd_popA 2 (pgd_tup rfl rfl (pgds_cons (pgd_name 3 sg_shortest_words.nd) (pgds_cons (pgd_name 4 sg_shortest_words.nd) pgds_nil)))))
  (zd_cons (zd_plain (psd_set 5 sg_shortest_words.nd (pd_call rfl c_fallen hr (by decide) (pad_cons (pd_var 4) pad_nil))))
  (zd_cons (zd_if (ptd_not (pt_tru rfl (pd_var 5))) (zd_one (zd_yield (pd_var 3))) zd_nil)
  (zd_one (zd_plain (psd_for owns_gcx rfl (pid_rvT rfl g_reversed (pd_var 5)) (pgd_name 6 sg_shortest_words.nd) (psd_one (psd_app 2 (pd_tup (pad_cons (pd_tup (pad_star rfl (pd_var 3) (pad_cons (pd_var 6) pad_nil))) (pad_cons (pd_call rfl c_pressed hr (by decide) (pad_cons (pd_var 0) (pad_cons (pd_var 4) (pad_cons (pd_var 6) pad_nil)))) pad_nil))))))))))))))
end BW
namespace T7
open PySem L2 DL
abbrev s__law_draw : Stmt := BW.s__law_draw
def sp__law_mixed : DSp := fun ds k R => ∃ a n : Int, ds = [.int a, .int n] ∧ 0 ≤ a ∧ a < 1000000000000000 ∧ 0 ≤ n ∧ n < 1000000000000 ∧ ∀ r, 0 ≤ r → r < 306783377 → R (.int r) k
theorem sc__law_draw : FnScope ["m", "limit", "n", "lot", "here", "cell"] ["m", "limit"] (defScope s__law_draw) := ⟨rfl, rfl, rfl, by decide +kernel, rfl, by decide +kernel, by decide +kernel⟩
def sp__law_draw : DSp := fun ds k R => ∃ z : Int, ds = [.int z] ∧ 0 < z ∧ z < 2 ^ 200 ∧ k < 100000000000 ∧ ∀ d, 0 ≤ d → d < z → R (.int d) (k + 1)
structure Zt (hid X0 : List Addr) (H H' : Hp) : Prop where
  sub : Sub (wo H (hid ++ X0)) (wo H' (hid ++ X0))
  old : ∀ a ∈ X0, H' a = H a
  tb : TbK H H'
theorem Zt.refl {hid X0 : List Addr} {H : Hp} : Zt hid X0 H H := ⟨Sub.refl _, fun _ _ => rfl, .refl⟩
theorem Zt.trans {hid X0 : List Addr} {H H1 H2 : Hp} (a : Zt hid X0 H H1) (b : Zt hid X0 H1 H2) : Zt hid X0 H H2 := ⟨a.sub.trans b.sub, fun x h => (b.old x h).trans (a.old x h), a.tb.trans b.tb⟩
theorem Zt.new {hid X0 : List Addr} {H : Hp} {p : Addr} {o : HO} (hp : H p = none) (xs : ∀ a ∈ X0, H a ≠ none) : Zt hid X0 H (upd H p o) := ⟨wo_new hp, fun a ha => upd_ne fun z => xs a ha (by rw [z]; exact hp), .new hp⟩
theorem Zt.mut {hid X0 : List Addr} {H : Hp} {p : Addr} {o : HO} (hp : p ∈ hid) (xm : ∀ a ∈ X0, a ∉ hid) (tb : TbK H (upd H p o)) : Zt hid X0 H (upd H p o) := ⟨wo_mut (List.mem_append_left _ hp), fun a ha => upd_ne fun z => xm a ha (by rw [z]; exact hp), tb⟩
section
variable {P : Program} {w : World} {K : PySem.W.Frag} {mg : PySem.Str → Option Value} {base : Heap}
theorem call_mixed {K : PySem.W.Frag} {H : Hp} {a n : Int} {Q : VK} {E : XK} {Y : List Addr} (xs : ∀ a ∈ Y, H a ≠ none) (xt : ∀ a ∈ Y, ∀ ps, H a ≠ some (.tbl ps)) (a0 : 0 ≤ a) (a1 : a < 1000000000000000) (n0 : 0 ≤ n) (n1 : n < 1000000000000) (h : ∀ r, 0 ≤ r → r < 306783377 → ∀ H', Sub (wo H Y) (wo H' Y) → (∀ a ∈ Y, H' a = H a) → TbK H H' → Q (.int r) H') :
    spD K false sp__law_mixed [.int a, .int n] H Q E := by
  refine ⟨none, Y, 0, [.int a, .int n], _, fun d _ => ∃ r, d = .int r ∧ 0 ≤ r ∧ r < 306783377, ⟨rfl, rfl⟩, ⟨fun _ _ => by simp [Ml], xs, trivial, .cons (.int _) (.cons (.int _) .nil), xt⟩, ⟨a, n, rfl, a0, a1, n0, n1, fun r r0 r1 => ⟨r, rfl, r0, r1⟩⟩, ?_⟩
  rintro d k' ⟨r, rfl, r0, r1⟩ v H' af er
  cases er.intE
  exact h r r0 r1 H' af.sub af.old af.tb
theorem ixN_nat {n j : Nat} (hj : j < n) : ixN n (j : Int) = some j := by
  unfold ixN
  rw [if_pos (by omega), if_pos (by omega)]
  simp
theorem mk_inv {n : Nat} {pc pg : Addr} : valV [((Sum.inr "cells" : Key), V.ref pc), (Sum.inr "great", .ref pg), (Sum.inr "spot", .int n)] (Sum.inr "spot") = some (.int n) := by rfl
theorem mk_gr {n : Int} {pc pg : Addr} : valV [((Sum.inr "cells" : Key), V.ref pc), (Sum.inr "great", .ref pg), (Sum.inr "spot", .int n)] (Sum.inr "great") = some (.ref pg) := by rfl
theorem mk_ce {n : Int} {pc pg : Addr} : valV [((Sum.inr "cells" : Key), V.ref pc), (Sum.inr "great", .ref pg), (Sum.inr "spot", .int n)] (Sum.inr "cells") = some (.ref pc) := by rfl
theorem mk_put {n j : Int} {pc pg : Addr} : putK [((Sum.inr "cells" : Key), V.ref pc), (Sum.inr "great", .ref pg), (Sum.inr "spot", .int n)] (Sum.inr "spot") (.int j) = [((Sum.inr "cells" : Key), V.ref pc), (Sum.inr "great", .ref pg), (Sum.inr "spot", .int j)] := by rfl
theorem ok__law_draw {f fm : Addr} {fd : FuncData} (F : Fun K "_law_draw" "_law_draw" s__law_draw f fd) (c__law_mixed : CalD P w K mg base 1 "_law_mixed" false sp__law_mixed) (g_len : mg "len" = none) (g_int : mg "int" = none) : FnOk P w K mg base CX0 2 f fd ["m", "limit"] (spD K true sp__law_draw) := by
  refine F.ok sc__law_draw (fun vs H Q E h => ?_) (fun cdv A outer s H vs Q E hr h => ?_)
  · obtain ⟨M, X0, k, ds, ws, R, ⟨m, _, rfl⟩, a, ⟨z, rfl, _⟩, _⟩ := h
    have := a.args.len
    rw [List.length_cons, this]
    rfl
  · obtain ⟨M, X0, k, ds, ws, R, ⟨m, ⟨rfl, hkd⟩, rfl⟩, ⟨xm, xs, hmat, ar, xt⟩, ⟨z, rfl, z0, z1, hk, hR⟩, fin⟩ := h
    obtain ⟨cs, gs, n, mo, hnk, htb⟩ := hmat.dr hkd
    cases ar with
    | cons e1 e2 =>
      cases e2
      cases e1.intE
      obtain ⟨fm, fdm, psm, Gm, hmm, kpm, bm⟩ := c__law_mixed.ex
      have hu := hu_of hr
      refine ⟨_, pss_cons (ps_set (i := 2) sc__law_draw.nd rfl (.inl rfl) (pe_dget hu (pv 0) pe_str (fun _ _ => rfl)))
        (pss_cons (ps_dput hu (pv 0) pe_str (pe_op op_add (pv 2) pe_int) rfl)
        (pss_cons (ps_if (pt_cmpR (op_neD hr.units) (pe_dget hu (pv 0) pe_str (fun _ _ => rfl)) (pe_lst pa_nil) (nomark _))
          (pss_cons (ps_set (i := 3) sc__law_draw.nd rfl (.inl rfl) (pe_dget hu (pv 0) pe_str (fun _ _ => rfl)))
          (pss_cons (ps_set (i := 4) sc__law_draw.nd rfl (.inl rfl) (pe_op op_mod (pe_callTy call_int1 rfl g_int PyProof.Rows.boot_int (pa_cons (pv 2) pa_nil)) (pe_callB call_len_seq rfl g_len PySem.boot_len (pa_cons (pv 3) pa_nil))))
          (pss_cons (ps_set (i := 5) sc__law_draw.nd rfl (.inl rfl) (pe_ix ix_list (pv 3) (pv 4) (fun _ _ => rfl)))
          (pss_one (ps_if (pt_cmpR op_gt (pv 5) pe_int (nomark _))
            (pss_cons (ps_asg (pe_op op_fdivW (pv 5) (pv 1)) (pg_sub (pv 3) (pv 4) set_list)) (pss_one (ps_ret (pe_op op_mod (pe_callTy call_int1 rfl g_int PyProof.Rows.boot_int (pa_cons (pv 5) pa_nil)) (pv 1)))))
            pss_nil)))))
          pss_nil)
        (pss_cons (ps_set (i := 3) sc__law_draw.nd rfl (.inl rfl) (pe_dget hu (pv 0) pe_str (fun _ _ => rfl)))
        (pss_one (ps_ret (pe_op op_mod (pe_callTy call_int1 rfl g_int PyProof.Rows.boot_int (pa_cons (pe_call Gm hr rfl hmm kpm bm .nil pass0 (pa_cons (pe_call Gm hr rfl hmm kpm bm .nil pass0 (pa_cons (pe_op op_add (pe_ix ix_list (pv 3) (pe_op op_mod (pe_callTy call_int1 rfl g_int PyProof.Rows.boot_int (pa_cons (pv 2) pa_nil)) pe_int) (fun _ _ => rfl)) (pe_op op_mul pe_int (pe_op op_fdiv (pv 2) pe_int))) (pa_cons (pv 2) pa_nil)))
          (pa_cons (pe_op op_add (pv 2) pe_int) pa_nil))) pa_nil)) (pv 1))))))), ?_⟩
      have ne1 : m.pg ≠ m.pm := fun q => by have h := mo.hg; rw [q, mo.hm] at h; cases h
      have ne2 : m.pc ≠ m.pm := fun q => by have h := mo.hc; rw [q, mo.hm] at h; cases h
      have npcg : m.pc ≠ m.pg := fun q => by
        have h := mo.hg
        rw [← q, mo.hc] at h
        have h := congrArg List.length (HO.lst.inj (Option.some.inj h))
        rw [List.length_map, List.length_map, mo.lc] at h
        have := mo.lg
        omega
      have in1 : m.pm ∈ Ml (some m) := by simp [Ml]
      have in2 : m.pg ∈ Ml (some m) := by simp [Ml]
      -- n = m['spot']; m['spot'] = n + 1
      refine ⟨_, rfl, _, _, rfl, (mk_inv (n := n)) ▸ DGet.k (k := Sum.inr "spot") mo.hm, ?_⟩
      refine ⟨_, rfl, _, _, rfl, rfl, _, rfl, _, _, rfl, DPut.k (k := Sum.inr "spot") mo.hm (by show 3 < sizeLine; decide), ?_⟩
      rw [mk_put]
      generalize hH1 : upd H m.pm (.dK [((Sum.inr "cells" : Key), V.ref m.pc), (Sum.inr "great", .ref m.pg), (Sum.inr "spot", .int ((n : Int) + 1))]) = H1
      have hm1 : H1 m.pm = some (.dK [((Sum.inr "cells" : Key), V.ref m.pc), (Sum.inr "great", .ref m.pg), (Sum.inr "spot", .int ((n : Int) + 1))]) := by rw [← hH1]; exact upd_same
      have hc1 : H1 m.pc = some (.lst (cs.map V.int)) := by rw [← hH1, upd_ne ne2]; exact mo.hc
      have hg1 : H1 m.pg = some (.lst (gs.map V.int)) := by rw [← hH1, upd_ne ne1]; exact mo.hg
      have z01 : Zt (Ml (some m)) X0 H H1 := by rw [← hH1]; exact Zt.mut in1 xm (.at_ mo.hm)
      have xs1 : ∀ a ∈ X0, H1 a ≠ none := fun a ha => by rw [z01.old a ha]; exact xs a ha
      clear hH1
      -- m['great'] != []
      refine ⟨_, rfl, _, _, rfl, mk_gr (n := (n : Int) + 1) ▸ DGet.k (k := Sum.inr "great") hm1, Nat.zero_le _, fun p hp => ?_⟩
      generalize hH2 : upd H1 p (.lst []) = H2
      have kp : Sub H1 H2 := fun b o e => by rw [← hH2, upd_ne (ne_of_none e hp)]; exact e
      have hm2 := kp _ _ hm1
      have hc2 := kp _ _ hc1
      have hg2 := kp _ _ hg1
      have z02 : Zt (Ml (some m)) X0 H H2 := z01.trans (by rw [← hH2]; exact Zt.new hp xs1)
      have xs2 : ∀ a ∈ X0, H2 a ≠ none := fun a ha => by rw [z02.old a ha]; exact xs a ha
      have np : H2 p = some (.lst []) := by rw [← hH2]; exact upd_same
      clear hH2
      have dp : Dp K H2 (.ref m.pg) (.list (gs.map PyData.int)) := by
        have q := Rl.dp (K := K) (H := H2) (.lst (gs.map D.int)) (.lst hg2 (RlA.ints gs)) (plain_ints gs)
        show Dp K H2 (.ref m.pg) (.list (gs.map PyData.int))
        rw [← py_ints gs]
        exact q
      have sh : SeqAt.shaped (.list (gs.map PyData.int)) = true := by
        have q := okE_lstI gs
        unfold D.okE at q
        have q2 := (Bool.and_eq_true_iff.mp q).2
        have e : (D.lst (gs.map D.int)).py = .list (gs.map PyData.int) := by
          show PyData.list (pyA (gs.map D.int)) = _
          rw [py_ints]
        rw [e] at q2
        exact q2
      refine ⟨.list (gs.map PyData.int), .list [], dp, .lst (SqL.of np) .nil, sh, by decide, _, rfl, ?_⟩
      have ev : PyData.eqv (.list (gs.map PyData.int)) (.list []) = decide (gs = []) := by
        have q := eqv_ints gs []
        exact q
      rw [ev]
      -- the end: a remainder of something by z
      have fin' : ∀ (r : Int) (H' : Hp), Zt (Ml (some m)) X0 H H' → (∃ cs gs, MOk m H' cs gs (n + 1)) → Q (.int (r % z)) H' := fun r H' zt ⟨cs', gs', mo'⟩ =>
        fin (.int (r % z)) (k + 1) (hR _ (Int.emod_nonneg _ (by omega)) (Int.emod_lt_of_pos _ z0)) _ H' ⟨zt.sub, zt.old, .of hkd ⟨cs', gs', n + 1, mo', by omega, zt.tb.tabs _ htb⟩, zt.tb⟩ (.int _)
      -- behind the if: a cell is mixed
      have low : ∀ v : Option V, ∀ v4 v5 : Option V, (tSeq (tAsg (tDGet (tVar 0) (tC (.str "cells"))) (gName 3)) (tRet (tOp (rI (fun _ j => 0 < j) fun i j => .int (i % j)) (tCB (fun xs H Q => (∃ i, xs = [.int i] ∧ Q (.int i) H) ∨ ∃ k, xs = [.bl k] ∧ Q (.int (if k then 1 else 0)) H) (tCons (tCall (spD K false sp__law_mixed) [] E0 (tCons (tCall (spD K false sp__law_mixed) [] E0 (tCons (tOp (rI0 fun i j => .int (i + j)) (tOp (rIxL K) (tVar 3) (tOp (rI (fun _ j => 0 < j) fun i j => .int (i % j)) (tCB (fun xs H Q => (∃ i, xs = [.int i] ∧ Q (.int i) H) ∨ ∃ k, xs = [.bl k] ∧ Q (.int (if k then 1 else 0)) H) (tCons (tVar 2) tNil)) (tC (.int 64)))) (tOp (rI CMul fun i j => .int (i * j)) (tC (.int 31)) (tOp (rI CDiv fun i j => .int (i / j)) (tVar 2) (tC (.int 64))))) (tCons (tVar 2) tNil))) (tCons (tOp (rI0 fun i j => .int (i + j)) (tVar 2) (tC (.int 7))) tNil))) tNil)) (tVar 1))))
          { nx := fun _ H' => Q .non H', rt := Q } [some (.ref m.pm), some (.int z), some (.int n), v, v4, v5] H2 := fun v v4 v5 => by
        refine ⟨_, rfl, _, _, rfl, mk_ce (n := (n : Int) + 1) ▸ DGet.k (k := Sum.inr "cells") hm2, ?_⟩
        have hi : n % 64 < cs.length := by rw [mo.lc]; exact Nat.mod_lt _ (by decide)
        obtain ⟨x, hx⟩ : ∃ x, cs[n % 64]? = some x := ⟨cs[n % 64], by simp [hi]⟩
        have bx := mo.bc x (List.mem_of_getElem? hx)
        refine ⟨_, rfl, _, rfl, .inl ⟨_, rfl, _, _, rfl, rfl, by show (0 : Int) < 64; decide, _, _, _, V.int x, rfl, rfl, SqL.of hc2, ?_, ?_⟩⟩
        · have e : ((n : Int) % 64) = ((n % 64 : Nat) : Int) := by omega
          rw [e]
          exact atI_nat (by rw [List.getElem?_map, hx]; rfl)
        refine ⟨_, rfl, _, _, rfl, rfl, ⟨by decide, by decide⟩, _, _, rfl, rfl, .inl ⟨by decide, by decide⟩, _, _, rfl, rfl, _, rfl, ?_⟩
        have hY : ∀ a ∈ Ml (some m) ++ X0, H2 a ≠ none := fun a ha => by
          rcases List.mem_append.mp ha with ha | ha
          · simp [Ml] at ha
            rcases ha with rfl | rfl | rfl
            · rw [hm2]; simp
            · rw [hc2]; simp
            · rw [hg2]; simp
          · exact xs2 a ha
        have tY : ∀ a ∈ Ml (some m) ++ X0, ∀ ps, H2 a ≠ some (.tbl ps) := fun a ha ps => by
          rcases List.mem_append.mp ha with ha | ha
          · simp [Ml] at ha
            rcases ha with rfl | rfl | rfl
            · rw [hm2]; intro e; cases e
            · rw [hc2]; intro e; cases e
            · rw [hg2]; intro e; cases e
          · rw [z02.old a ha]; exact xt a ha ps
        refine call_mixed (E := E0) hY tY (by omega) (by omega) (by omega) (by omega) fun r r0 r1 H3 s3 o3 t3 => ?_
        refine ⟨_, rfl, _, _, rfl, rfl, ?_⟩
        refine call_mixed (E := E0) (fun a ha => by rw [o3 a ha]; exact hY a ha) (fun a ha => by rw [o3 a ha]; exact tY a ha) (by omega) (by omega) (by omega) (by omega) fun r' r0' r1' H4 s4 o4 t4 => ?_
        refine .inl ⟨_, rfl, _, rfl, _, _, rfl, rfl, z0, ?_⟩
        have o24 : ∀ a ∈ Ml (some m) ++ X0, H4 a = H2 a := fun a ha => (o4 a ha).trans (o3 a ha)
        have z04 : Zt (Ml (some m)) X0 H H4 := z02.trans ⟨s3.trans s4, fun a ha => o24 a (List.mem_append_right _ ha), t3.trans t4⟩
        exact fin' r' H4 z04 ⟨cs, gs, ⟨(o24 _ (by simp [Ml])).trans hm2, (o24 _ (by simp [Ml])).trans hc2, (o24 _ (by simp [Ml])).trans hg2, mo.lc, mo.bc, mo.lg, mo.bg⟩⟩
      by_cases hgs : gs = []
      · rw [decide_eq_true hgs]
        exact iteF (low _ _ _)
      · rw [decide_eq_false hgs]
        refine iteT ?_
        have lp : 0 < gs.length := List.length_pos_iff.mpr hgs
        refine ⟨_, rfl, _, _, rfl, mk_gr (n := (n : Int) + 1) ▸ DGet.k (k := Sum.inr "great") hm2, ?_⟩
        refine ⟨_, rfl, .inl ⟨_, rfl, _, rfl, _, _, rfl, .inl (SqL.of hg2), _, _, rfl, rfl, by rw [List.length_map]; omega, ?_⟩⟩
        have hi : n % gs.length < gs.length := Nat.mod_lt _ lp
        obtain ⟨x, hx⟩ : ∃ x, gs[n % gs.length]? = some x := ⟨gs[n % gs.length], by simp [hi]⟩
        have bx := mo.bg x (List.mem_of_getElem? hx)
        have en : ((n : Int) % ((gs.map V.int).length : Int)) = ((n % gs.length : Nat) : Int) := by rw [List.length_map]; omega
        refine ⟨_, rfl, _, rfl, _, _, _, V.int x, rfl, rfl, SqL.of hg2, by rw [en]; exact atI_nat (by rw [List.getElem?_map, hx]; rfl), ?_⟩
        refine ⟨_, rfl, _, _, rfl, rfl, _, rfl, ?_⟩
        by_cases hx0 : 0 < x
        · rw [decide_eq_true hx0]
          refine iteT ?_
          refine ⟨_, rfl, _, rfl, _, _, rfl, rfl, ⟨z0, ?_⟩, _, rfl, _, rfl, _, _, _, n % gs.length, rfl, rfl, hg2, ?_, ?_⟩
          · have : z.natAbs < 2 ^ 200 := by omega
            exact Nat.lt_of_lt_of_le (PySem.Flt.log2_lt_of (by decide) this) (by decide)
          · rw [en]; exact ixN_nat (by rw [List.length_map]; exact hi)
          · refine ⟨_, rfl, .inl ⟨_, rfl, _, rfl, _, _, rfl, rfl, z0, ?_⟩⟩
            have ne3 : m.pc ≠ m.pg := npcg
            refine fin' x _ (z02.trans (Zt.mut in2 xm (.at_ hg2))) ⟨cs, gs.set (n % gs.length) (x / z), ⟨?_, ?_, ?_, mo.lc, mo.bc, ?_, ?_⟩⟩
            · rw [upd_ne ne1.symm]; exact hm2
            · rw [upd_ne ne3]; exact hc2
            · rw [upd_same, List.map_set]
            · rw [List.length_set]; exact mo.lg
            · intro y hy
              rcases List.mem_or_eq_of_mem_set hy with h | h
              · exact mo.bg y h
              · rw [h]; exact Int.ediv_nonneg (by omega) (by omega)
        · rw [decide_eq_false hx0]
          exact iteF (low _ _ _)
end
end T7
namespace T7
open PySem L2 DL PyProof.Rows
abbrev s__law_folded : Stmt := BW.s__law_folded
theorem sc__law_folded : FnScope ["script", "found", "n", "cell"] ["script"] (defScope s__law_folded) := ⟨rfl, rfl, rfl, by decide +kernel, rfl, by decide +kernel, by decide +kernel⟩
abbrev t__law_folded : DS := (dSeq (dSetO 1 (dLc (iR1 (dC (.int 64))) (dgN 2) dY (dOp oAdd (dC (.int 17)) (dVar 2)) [2]))
  (dSeq (dFor (iScE 0) (dgTup 2 (dgCons (dgN 2) (dgCons (dgN 3) dgNil))) (dSix 1 (dOp oMod (dInt (dVar 2)) (dC (.int 64))) (dOp oMod (dInt (dOp oAdd (dOp oMul (dIxN 1 (dOp oMod (dInt (dVar 2)) (dC (.int 64)))) (dC (.int 48271))) (dVar 3))) (dC (.int 2147483647)))))
  (dSeq (dFor (iR2 (dC (.int 1)) (dC (.int 64))) (dgN 2) (dSix 1 (dVar 2) (dOp oMod (dInt (dOp oAdd (dIxN 1 (dVar 2)) (dOp oMul (dIxN 1 (dOp oSub (dVar 2) (dC (.int 1)))) (dC (.int 16807))))) (dC (.int 2147483647)))))
  (dRet (dVar 1)))))
theorem w__law_folded {P : Program} {w : World} {K : PySem.W.Frag} {mg : PySem.Str → Option Value} {base : Heap} (g_range : mg "range" = none) (g_enumerate : mg "enumerate" = none) (g_int : mg "int" = none) (qual : PySem.Str) (f : Addr) (cdv : Value) (A : Around) (outer : List Env) (s : Shared) (H : Hp) (E : XK) (M : Option Mc) (X0 : List Addr)
    (hr : Room 0 (A.deeper (PyProof.Rows.envOfC qual (defScope s__law_folded) s.heap.objs.size f cdv))) :
    PSs (cxOf CX0 P w K mg base ["script", "found", "n", "cell"] qual (defScope s__law_folded) f cdv A outer s H E).nox (defBody s__law_folded) (LS ⟨K, M, X0, H, [1]⟩ t__law_folded) :=
  (psd_cons (psd_setLcO 1 (own := [("n", 2)]) rfl sc__law_folded.nd (pid_r1 g_range pd_int) (blkOk_by (N := ["script", "found", "n", "cell"]) (sc := defScope s__law_folded) (by decide +kernel)) (fun _ _ _ _ _ => (pgd_name 2 sc__law_folded.nd)) (fun _ _ _ _ _ => pts_none) (fun _ _ _ _ _ => (pd_add rfl pd_int (pd_var 2))))
  (psd_cons (psd_for PassesOwn.never rfl (pid_scrE rfl 0 g_enumerate) (pgd_tup rfl rfl (pgds_cons (pgd_name 2 sc__law_folded.nd) (pgds_cons (pgd_name 3 sc__law_folded.nd) pgds_nil))) (psd_one (psd_six 1 (pd_mod (pd_int1 g_int (pd_var 2)) pd_int) (pd_mod (pd_int1 g_int (pd_add rfl (pd_mul rfl (pd_ixN rfl 1 (pd_mod (pd_int1 g_int (pd_var 2)) pd_int)) pd_int) (pd_var 3))) pd_int))))
  (psd_cons (psd_for PassesOwn.never rfl (pid_r2 g_range pd_int pd_int) (pgd_name 2 sc__law_folded.nd) (psd_one (psd_six 1 (pd_var 2) (pd_mod (pd_int1 g_int (pd_add rfl (pd_ixN rfl 1 (pd_var 2)) (pd_mul rfl (pd_ixN rfl 1 (pd_sub (pd_var 2) pd_int)) pd_int))) pd_int))))
  (psd_one (psd_ret (pd_var 1))))))
def sp__law_folded : List Int → (D → Prop) → Prop := fun ns R => ∀ cs : List Int, cs.length = 64 → (∀ x ∈ cs, 0 ≤ x ∧ x < 2147483647) → R (.lst (cs.map .int))
theorem r__law_folded (ns : List Int) (R : D → Prop) (h : sp__law_folded ns R) : t__law_folded { nx := fun _ => R .non, rt := fun d _ => R d } ⟨[], .scr ns :: List.replicate (4 - 1) .no, 0⟩ := by
  refine ⟨_, rfl, by decide, by decide, by decide, fun p hp => ⟨fun i acc k => k = 0 ∧ ∃ cs : List Int, acc = cs.map .int ∧ cs.length = i ∧ ∀ x ∈ cs, 0 ≤ x ∧ x < 2147483647, ?_, ?_, ?_⟩⟩
  · exact ⟨rfl, [], rfl, rfl, fun _ h => (nomatch h)⟩
  · rintro i d acc k hd ⟨rfl, cs, rfl, rfl, hc⟩ hl
    obtain ⟨hi, rfl⟩ := rngD_at hd
    have hi : cs.length < 64 := hi
    refine iteT ⟨_, rfl, ?_⟩
    refine ⟨rfl, cs ++ [17 + (0 + (cs.length : Int))], ?_, by simp, ?_⟩
    · rw [List.map_append]; rfl
    · intro x hx
      rcases List.mem_append.mp hx with h | h
      · exact hc x h
      · simp at h
        omega
  · rintro acc k ⟨rfl, cs, rfl, hc, hb⟩ hl q hq
    have hc : cs.length = 64 := by rw [hc, rngD_len]; rfl
    refine ⟨ns, rfl, fun i s' => ∃ (cs : List Int) (x y : Sl), s' = ⟨[q], [.scr ns, .own q (cs.map .int), x, y], 0⟩ ∧ cs.length = 64 ∧ ∀ x ∈ cs, 0 ≤ x ∧ x < 2147483647, ?_, ?_, ?_⟩
    · exact ⟨cs, _, _, rfl, hc, hb⟩
    · rintro i d s' hd ⟨cs, x, y, rfl, hc, hb⟩
      obtain ⟨e, he, rfl⟩ := enum_at hd
      rw [List.getElem?_map] at he
      obtain ⟨c, hc', rfl⟩ := Option.map_eq_some_iff.mp he
      refine ⟨rfl, rfl, ?_⟩
      have hj : i % 64 < cs.length := by rw [hc]; exact Nat.mod_lt _ (by decide)
      obtain ⟨v, hv⟩ : ∃ v, cs[i % 64]? = some v := ⟨cs[i % 64], by simp [hj]⟩
      have bv := hb v (List.mem_of_getElem? hv)
      have ei : (((0 + i : Nat) : Int) % 64) = ((i % 64 : Nat) : Int) := by omega
      have hv' : (cs.map D.int)[i % 64]? = some (.int v) := by rw [List.getElem?_map, hv]; rfl
      refine ⟨_, _, rfl, ?_⟩
      refine ⟨_, rfl, _, rfl, _, rfl, by omega, _, .int v, rfl, by rw [ei]; exact atI_nat hv', ?_⟩
      refine ⟨Or.inl ⟨by omega, by omega⟩, _, rfl, _, rfl, by omega, ?_⟩
      refine ⟨_, rfl, _, rfl, by omega, _, _, rfl, by rw [ei]; exact ixN_nat (by rw [List.length_map]; exact hj), ?_⟩
      refine ⟨cs.set (i % 64) ((v * 48271 + c) % 2147483647), _, _, by rw [List.map_set]; rfl, by rw [List.length_set]; exact hc, fun z hz => ?_⟩
      rcases List.mem_or_eq_of_mem_set hz with h | h
      · exact hb z h
      · omega
    · rintro s' ⟨cs, x, y, rfl, hc, hb⟩
      refine ⟨_, _, rfl, rfl, ⟨by decide, by decide, by decide, by decide⟩, fun i s' => ∃ (cs : List Int) (x : Sl), s' = ⟨[q], [.scr ns, .own q (cs.map .int), x, y], 0⟩ ∧ cs.length = 64 ∧ ∀ x ∈ cs, 0 ≤ x ∧ x < 2147483647, ⟨cs, _, rfl, hc, hb⟩, ?_, ?_⟩
      · rintro i d s' hd ⟨cs, x, rfl, hc, hb⟩
        obtain ⟨hi, rfl⟩ := rngD_at hd
        have hi : i < 63 := hi
        have j1 : i + 1 < cs.length := by omega
        have j0 : i < cs.length := by omega
        obtain ⟨v, hv⟩ : ∃ v, cs[i + 1]? = some v := ⟨cs[i + 1], by simp [j1]⟩
        obtain ⟨u, hu⟩ : ∃ u, cs[i]? = some u := ⟨cs[i], by simp [j0]⟩
        have bv := hb v (List.mem_of_getElem? hv)
        have bu := hb u (List.mem_of_getElem? hu)
        have hv' : (cs.map D.int)[i + 1]? = some (.int v) := by rw [List.getElem?_map, hv]; rfl
        have hu' : (cs.map D.int)[i]? = some (.int u) := by rw [List.getElem?_map, hu]; rfl
        have e1 : (1 + (i : Int)) = ((i + 1 : Nat) : Int) := by omega
        have e0 : (1 + (i : Int) - 1) = (i : Int) := by omega
        refine ⟨_, _, rfl, ?_⟩
        refine ⟨_, rfl, _, rfl, _, .int v, rfl, by rw [e1]; exact atI_nat hv', ?_⟩
        refine ⟨_, rfl, _, rfl, _, .int u, rfl, by rw [e0]; exact atI_nat hu', ?_⟩
        refine ⟨Or.inl ⟨by omega, by omega⟩, _, rfl, by omega, ?_⟩
        refine ⟨_, rfl, _, _, rfl, by rw [e1]; exact ixN_nat (by rw [List.length_map]; exact j1), ?_⟩
        refine ⟨cs.set (i + 1) ((v + u * 16807) % 2147483647), _, by rw [List.map_set]; rfl, by rw [List.length_set]; exact hc, fun z hz => ?_⟩
        rcases List.mem_or_eq_of_mem_set hz with h | h
        · exact hb z h
        · omega
      · rintro s' ⟨cs, x, rfl, hc, hb⟩ X
        exact ⟨_, rfl, h cs hc hb⟩
theorem ok__law_folded {P : Program} {w : World} {K : PySem.W.Frag} {mg : PySem.Str → Option Value} {base : Heap} {f : Addr} {fd : FuncData} (F : Fun K "_law_folded" "_law_folded" s__law_folded f fd) (g_range : mg "range" = none) (g_enumerate : mg "enumerate" = none) (g_int : mg "int" = none) : FnOk P w K mg base CX0 1 f fd ["script"] (spS K sp__law_folded) :=
  okS F sc__law_folded [1] ⟨t__law_folded, fun cdv A outer s H E hr => w__law_folded g_range g_enumerate g_int _ f cdv A outer s H E none [] hr, r__law_folded⟩
end T7
namespace T7
open PySem L2 DL
abbrev s__law_begun : Stmt := BW.s__law_begun
theorem sc__law_begun : FnScope ["script", "m", "cell"] ["script"] (defScope s__law_begun) := ⟨rfl, rfl, rfl, by decide +kernel, rfl, by decide +kernel, by decide +kernel⟩
def spBegun (K : PySem.W.Frag) : Sp := fun vs H Q _ => ∃ (a : Addr) (ns : List Int), vs = [.ref a] ∧ SqL K H a (ns.map V.int) ∧ ns.length ≤ 63 ∧ ∀ (m : Mc) (H' : Hp) (cs gs : List Int), TbK H H' → MOk m H' cs gs 0 → Q (.ref m.pm) H'
theorem PE.ex {X : Cx} {e : Expr} {K : PySem.W.Frag} {f : C → TE} (h : ∀ c, c.K = K → PE X e (f c)) : PE X e (fun σ H Q => ∃ c, c.K = K ∧ f c σ H Q) := ⟨fun pins s σ H Q I ⟨c, hc, q⟩ => (h c hc).run pins s σ H Q I q⟩
theorem rep0 {K : PySem.W.Frag} {H : Hp} {a : Addr} {ns : List Int} {σ : L2.St} {n : Nat} (h : SqL K H a (ns.map V.int)) (e : σ[0]? = some (some (.ref a))) (hl : σ.length = n + 1) : Rep ⟨K, none, [], H, []⟩ ⟨[], .scr ns :: List.replicate n .no, 0⟩ σ H := by
  refine ⟨Sub.refl _, fun _ h => (nomatch h), fun _ h => h, fun _ h => (nomatch h), fun _ h => (nomatch h), trivial, fun i z e' => ?_, fun i j p q ds es e' _ _ => ?_, ?_, .refl, fun _ h => (nomatch h)⟩
  · cases i with
    | zero =>
      obtain rfl : Sl.scr ns = z := Option.some.inj e'
      exact ⟨a, e, sl_in h⟩
    | succ i =>
      have e' : (List.replicate n Sl.no)[i]? = some z := e'
      rw [List.getElem?_replicate] at e'
      split at e'
      · cases e'; trivial
      · cases e'
  · have e' : (Sl.scr ns :: List.replicate n Sl.no)[i]? = some (.own p ds) := e'
    have mem := List.mem_of_getElem? e'
    simp at mem
  · show (Sl.scr ns :: List.replicate n Sl.no).length = σ.length
    simp [hl]
section
variable {P : Program} {w : World} {K : PySem.W.Frag} {mg : PySem.Str → Option Value} {base : Heap}
theorem ok__law_begun {f ff : Addr} {fd fdf : FuncData} (F : Fun K "_law_begun" "_law_begun" s__law_begun f fd) (Gf : FnOk P w K mg base CX0 1 ff fdf ["script"] (spS K sp__law_folded)) (hmf : mg "_law_folded" = some (.ref ff)) (kpf : PySem.W.keepIn K (.ref ff) = true) (bf : Binds K fdf ["script"] []) : FnOk P w K mg base CX0 2 f fd ["script"] (spBegun K) := by
  refine F.ok sc__law_begun (fun vs H Q E h => ?_) (fun cdv A outer s H vs Q E hr h => ?_)
  · obtain ⟨a, ns, rfl, _⟩ := h
    rfl
  · obtain ⟨a, ns, rfl, ha, hl, fin⟩ := h
    have hu := hu_of hr
    refine ⟨_, pss_cons (ps_set (i := 1) sc__law_begun.nd rfl (.inl rfl) (pe_disp (pps_cons pe_str (pe_call Gf hr rfl hmf kpf bf .nil pass0 (pa_cons (pv 0) pa_nil)) (pps_cons pe_str (pe_lst pa_nil) (pps_cons pe_str pe_int pps_nil))) rfl rfl (by simp) (by decide)))
      (pss_cons (ps_dput hu (pv 1) pe_str (PE.ex (K := K) (f := fun c => LF c (dLc (iScr 0) (dgN 2) dY (dIf (dTB (dOp oGe (dVar 2) (dOp oPow (dC (.int 10)) (dC (.int 18))))) (dVar 2) (dC (.int 0))) [2])) fun c hc => (pdf_lc (own := [("cell", 2)]) rfl sc__law_begun.nd (pid_scr hc 0) (blkOk_by (N := ["script", "m", "cell"]) (sc := defScope s__law_begun) (by decide +kernel)) (fun _ _ _ _ _ => (pgd_name 2 sc__law_begun.nd)) (fun _ _ _ _ _ => pts_none) (fun _ _ _ _ _ => (pd_if (ptd_cmp op_ge fit_ge (pd_var 2) (pd_pow pd_int pd_int)) (pd_var 2) pd_int)))) rfl)
      (pss_one (ps_ret (pv 1)))), ?_⟩
    intro p hp
    have s1 : Sub H (upd H p (.dK [])) := fun b o e => by rw [upd_ne (ne_of_none e hp)]; exact e
    refine ⟨_, rfl, ?_⟩
    refine ⟨a, ns, fun d => ∃ cs : List Int, d = .lst (cs.map .int) ∧ cs.length = 64 ∧ ∀ x ∈ cs, 0 ≤ x ∧ x < 2147483647, rfl, s1.sl ha, fun cs h1 h2 => ⟨cs, rfl, h1, h2⟩, ?_⟩
    rintro d ⟨cs, rfl, hc, hb⟩ v H2 s2 t2 rv
    obtain ⟨pc, vs, rfl, hpc, ra⟩ := rv.lstE
    obtain rfl := ra.ints_v
    have p2 : H2 p = some (.dK []) := s2.out upd_same
    refine ⟨Nat.zero_le _, fun q hq => ?_⟩
    have nqp : p ≠ q := ne_of_none p2 hq
    refine ⟨by rw [upd_ne nqp]; exact p2, [(Sum.inr "cells", .ref pc), (Sum.inr "great", .ref q), (Sum.inr "spot", .int 0)], rfl, by show 3 ≤ 15; decide, ?_⟩
    have mk : mergeK [] [((Sum.inr "cells" : Key), V.ref pc), (Sum.inr "great", .ref q), (Sum.inr "spot", .int 0)] = [((Sum.inr "cells" : Key), V.ref pc), (Sum.inr "great", .ref q), (Sum.inr "spot", .int 0)] := by rfl
    rw [mk]
    generalize hH4 : upd (upd H2 q (.lst [])) p (.dK [((Sum.inr "cells" : Key), V.ref pc), (Sum.inr "great", .ref q), (Sum.inr "spot", .int 0)]) = H4
    have npc : pc ≠ p := fun z => by rw [z, p2] at hpc; cases hpc
    have p4 : H4 p = some (.dK [((Sum.inr "cells" : Key), V.ref pc), (Sum.inr "great", .ref q), (Sum.inr "spot", .int 0)]) := by rw [← hH4]; exact upd_same
    have c4 : H4 pc = some (.lst (cs.map V.int)) := by rw [← hH4, upd_ne npc, upd_ne (ne_of_none hpc hq)]; exact hpc
    have t4 : TbK H H4 := by
      rw [← hH4]
      exact (TbK.new hp).trans (t2.trans ((TbK.new hq).trans (TbK.at_ (by rw [upd_ne nqp]; exact p2))))
    have s4 : ∀ b o, NoTb o → H b = some o → H4 b = some o := fun b o n e => by
      rw [← hH4]
      have e2 := s2.out (s1 _ _ e) n
      rw [upd_ne (ne_of_none e hp), upd_ne (ne_of_none e2 hq)]
      exact e2
    have a4 : SqL K H4 a (ns.map V.int) := by
      rcases ha with (h | ⟨o, h⟩) | h
      · exact .inl (.inl (s4 _ _ (by intro _ z; cases z) h))
      · exact .inl (.inr ⟨o, s4 _ _ (by intro _ z; cases z) h⟩)
      · exact .inr h
    clear hH4
    refine ⟨⟨K, none, [], H4, []⟩, rfl, ⟨[], .scr ns :: List.replicate 2 .no, 0⟩, fun ds k => ∃ gs : List Int, ds = gs.map .int ∧ gs.length ≤ 63 ∧ ∀ x ∈ gs, 0 ≤ x, rep0 a4 rfl rfl, ?_, ?_⟩
    · refine ⟨ns, rfl, by rw [List.length_map]; exact Nat.le_trans hl (by decide), fun p hp => ⟨fun i acc k => ∃ gs : List Int, acc = gs.map .int ∧ gs.length = i ∧ ∀ x ∈ gs, 0 ≤ x, ⟨[], rfl, rfl, fun _ h => (nomatch h)⟩, ?_, ?_⟩⟩
      · rintro i d acc k hd ⟨gs, rfl, rfl, hb⟩ _
        rw [List.getElem?_map] at hd
        obtain ⟨c, hc', rfl⟩ := Option.map_eq_some_iff.mp hd
        have fin2 : ∀ z : Int, 0 ≤ z → ∃ gs' : List Int, gs.map D.int ++ [.int z] = gs'.map .int ∧ gs'.length = gs.length + 1 ∧ ∀ x ∈ gs', 0 ≤ x := fun z hz => ⟨gs ++ [z], by rw [List.map_append]; rfl, by simp, fun x hx => by
          rcases List.mem_append.mp hx with h | h
          · exact hb x h
          · simp at h; omega⟩
        refine iteT ⟨_, rfl, ⟨by decide, by decide, by decide⟩, _, rfl, ?_⟩
        by_cases h : ((10 : Int) ^ (18 : Int).toNat ≤ c)
        · rw [decide_eq_true h]
          exact iteT ⟨_, rfl, fin2 c (by have : (0 : Int) ≤ (10 : Int) ^ (18 : Int).toNat := by decide
                                         omega)⟩
        · rw [decide_eq_false h]
          exact iteF (fin2 0 (by decide))
      · rintro acc k ⟨gs, rfl, hg, hb⟩ _
        exact ⟨gs, rfl, by rw [hg, List.length_map]; exact hl, hb⟩
    · rintro ds k ⟨gs, rfl, hg, hb2⟩ g H5 nl
      obtain ⟨vs, hg5, ra5⟩ := nl.vals
      obtain rfl := ra5.ints_v
      have out : ∀ b o, NoTb o → H4 b = some o → H5 b = some o := fun b o n e => (wo_ne (nl.sub b o (wo_of (by simp [Ml]) e n))).2
      have p5 := out _ _ (by intro _ z; cases z) p4
      have c5 := out _ _ (by intro _ z; cases z) c4
      have ngp : p ≠ g := fun z => by rw [← z, p5] at hg5; cases hg5
      refine ⟨_, rfl, p, _, rfl, DPut.k (k := Sum.inr "great") p5 (by show 3 < sizeLine; decide), ?_⟩
      have mk2 : putK [((Sum.inr "cells" : Key), V.ref pc), (Sum.inr "great", .ref q), (Sum.inr "spot", .int 0)] (Sum.inr "great") (.ref g) = [((Sum.inr "cells" : Key), V.ref pc), (Sum.inr "great", .ref g), (Sum.inr "spot", .int 0)] := by rfl
      rw [mk2]
      --show tRet (tVar 1) _ _ (upd H5 p (.dK [((Sum.inr "cells" : Key), V.ref pc), (Sum.inr "great", .ref g), (Sum.inr "spot", .int 0)]))
      refine ⟨_, rfl, fin ⟨p, pc, g, [], none⟩ _ cs gs ?_ ⟨upd_same, by rw [upd_ne npc]; exact c5, by rw [upd_ne (Ne.symm ngp)]; exact hg5, hc, hb, hg, hb2⟩⟩
      exact t4.trans (nl.rep.tb.trans (.at_ p5))
end
end T7
namespace BW
open PySem L2 DL
abbrev t_kA : DE := dOp oIx (dFr (dLs (dCons (dC (.int 2)) (dCons (dC (.int 3)) (dCons (dC (.int 3)) (dCons (dC (.int 4)) (dCons (dC (.int 6)) (dCons (dC (.int 0)) (dCons (dC (.int 2)) (dCons (dC (.int 2)) dNil)))))))))) (dCallM 0 sp__law_draw (dCons (dC (.int 8)) dNil))
abbrev t_kB : DE := dIf (dOr (dTB (dOp oLt (dVar 6) (dOp oSub (dVar 2) (dC (.int 1))))) (dTB (dOp oEq (dVar 3) (dC (.int 2))))) (dC (.int 3)) (dOp oIx (dFr (dLs (dCons (dC (.int 3)) (dCons (dC (.int 4)) (dCons (dC (.int 6)) (dCons (dC (.int 0)) dNil)))))) (dCallM 0 sp__law_draw (dCons (dC (.int 4)) dNil)))
section
variable {P : Program} {w : World} {K : PySem.W.Frag} {mg : PySem.Str → Option Value} {base : Heap}
theorem ok__law_table {f : Addr} {fd : FuncData} (F : Fun K "_law_table" "_law_table" s__law_table f fd) (g_range : mg "range" = none) (c__law_draw : CalD P w K mg base 2 "_law_draw" true sp__law_draw) : FnOk P w K mg base CX0 3 f fd ["m", "most"] (spD K true sp__law_table) := by
  refine F.ok sc__law_table (fun vs H Q E h => ?_) (fun cdv A outer s H vs Q E hr h => ?_)
  · obtain ⟨M, X0, k, ds, ws, R, ⟨m, _, rfl⟩, a, ⟨most, rfl, _⟩, _⟩ := h
    have := a.args.len
    rw [List.length_cons, this]
    rfl
  · obtain ⟨M, X0, k, ds, ws, R, ⟨m, ⟨rfl, hkd⟩, rfl⟩, ⟨xm, xs, hm, ar, xt⟩, ⟨most, rfl, mo1, mo6, hk, hR⟩, fin⟩ := h
    obtain rfl : ws = [V.int most] := RlA.ints_v (ns := [most]) ar
    clear ar
    refine ⟨_, pss_cons (PS.exL (K := K) (t := dSet 2 (dOp oAdd (dC (.int 1)) (dCallM 0 sp__law_draw (dCons (dVar 1) dNil)))) fun c hc => psd_set 2 sc__law_table.nd (pd_add hc pd_int (pd_callM hc c__law_draw hr (by decide) 0 (pad_cons (pd_var 1) pad_nil))))
    (pss_cons (PS.exL (K := K) (t := dSet 3 (dCallM 0 sp__law_draw (dCons (dC (.int 4)) dNil))) fun c hc => psd_set 3 sc__law_table.nd (pd_callM hc c__law_draw hr (by decide) 0 (pad_cons pd_int pad_nil)))
    (pss_cons (ps_setLc (i := 4) (own := [("a", 5)]) rfl sc__law_table.nd rfl rfl (sw_true rfl rfl rfl (by decide +kernel)) (pi_range1 rfl g_range (pa_cons (pv 2) pa_nil) rfl) (blkOk_by (N := ["m", "most", "many", "way", "rows", "a", "b", "kind"]) (sc := defScope s__law_table) (by decide +kernel)) (fun _ _ _ _ _ => pg_name (i := 5) sc__law_table.nd rfl (.inr rfl)) (fun _ _ _ _ _ => pts_nil) (fun _ _ _ _ _ => PE.exF (K := K) (t := t_in8) fun c hc => (pdf_lc (own := [("b", 6)]) rfl sc__law_table.nd (pid_r1 g_range (pd_var 2)) (blkOk_by (N := ["m", "most", "many", "way", "rows", "a", "b", "kind"]) (sc := inSc) (by decide +kernel)) (fun _ _ _ _ _ => (pgd_name 6 sc__law_table.nd)) (fun _ _ _ _ _ => pts_none) (fun _ _ _ _ _ => (pd_if (ptd_cmp (OpR.or op_eq (op_eqD hr.units)) (fit_eq hc) (pd_var 5) (pd_var 6)) pd_int pd_int)))))
    (pss_cons (ps_for PassesOwn.never rfl (pi_range1 rfl g_range (pa_cons (pv 2) pa_nil) rfl) (pg_name (i := 5) sc__law_table.nd rfl (.inl rfl))
      (pss_one (ps_for PassesOwn.never rfl (pi_range2 rfl g_range (pa_cons (pe_op op_add (pv 5) pe_int) (pa_cons (pv 2) pa_nil))) (pg_name (i := 6) sc__law_table.nd rfl (.inl rfl))
        (pss_cons (ps_set (i := 7) sc__law_table.nd rfl (.inl rfl) pe_int)
        (pss_cons (ps_if (PT.exT (K := K) (t := dTB (dOp oLt (dVar 3) (dC (.int 2)))) fun c hc => ptd_cmp op_lt fit_lt (pd_var 3) pd_int)
          (pss_one (ps_set (i := 7) sc__law_table.nd rfl (.inl rfl) (PE.exE (K := K) (t := t_kA) fun c hc => pd_ix hc (pd_fr (pdf_lst (pad_cons pd_int (pad_cons pd_int (pad_cons pd_int (pad_cons pd_int (pad_cons pd_int (pad_cons pd_int (pad_cons pd_int (pad_cons pd_int pad_nil)))))))))) (pd_callM hc c__law_draw hr (by decide) 0 (pad_cons pd_int pad_nil)))))
          (pss_one (ps_if (PT.exT (K := K) (t := dTB (dOp oEq (dVar 6) (dOp oAdd (dVar 5) (dC (.int 1))))) fun c hc => ptd_cmp (OpR.or op_eq (op_eqD hr.units)) (fit_eq hc) (pd_var 6) (pd_add hc (pd_var 5) pd_int))
            (pss_one (ps_set (i := 7) sc__law_table.nd rfl (.inl rfl) (PE.exE (K := K) (t := t_kB) fun c hc => pd_if (PW.pt (pwd_or (ptd_cmp op_lt fit_lt (pd_var 6) (pd_sub (pd_var 2) pd_int)) (pwd_or1 (ptd_cmp (OpR.or op_eq (op_eqD hr.units)) (fit_eq hc) (pd_var 3) pd_int)))) pd_int (pd_ix hc (pd_fr (pdf_lst (pad_cons pd_int (pad_cons pd_int (pad_cons pd_int (pad_cons pd_int pad_nil)))))) (pd_callM hc c__law_draw hr (by decide) 0 (pad_cons pd_int pad_nil))))))
            pss_nil)))
        (pss_one (ps_asg (pe_tup (pa_cons (pv 7) (pa_cons (pv 7) pa_nil))) (pg_tup rfl (pgs_cons (pg_sub (pe_ix ix_list (pv 4) (pv 5) (fun _ _ => rfl)) (pv 6) set_list) (pgs_cons (pg_sub (pe_ix ix_list (pv 4) (pv 6) (fun _ _ => rfl)) (pv 5) set_list) pgs_nil))))))))))
    (pss_one (ps_ret (pv 4)))))), ?_⟩
    have r0 : Rep ⟨K, some m, X0, H, []⟩ ⟨X0, [.mst, .dat (.int most), .no, .no, .no, .no, .no, .no], k⟩ (L2.start ["m", "most", "many", "way", "rows", "a", "b", "kind"] [V.ref m.pm, V.int most]) H := by
      refine rep_of xm xs xt rfl hm (fun i x e => ?_) (fun i p ds e => ?_)
      · match i, e with
        | 0, e => cases e; exact ⟨m, ⟨rfl, hkd⟩, rfl⟩
        | 1, e => cases e; exact ⟨_, rfl, .int _⟩
        | 2, e => cases e; trivial
        | 3, e => cases e; trivial
        | 4, e => cases e; trivial
        | 5, e => cases e; trivial
        | 6, e => cases e; trivial
        | 7, e => cases e; trivial
      · have mem := List.mem_of_getElem? e
        simp at mem
    refine ⟨⟨K, some m, X0, H, []⟩, rfl, ⟨X0, [.mst, .dat (.int most), .no, .no, .no, .no, .no, .no], k⟩, ⟨fun s' => ∃ (n k' : Nat), 1 ≤ n ∧ n ≤ 6 ∧ (n : Int) ≤ most ∧ k ≤ k' ∧ k' ≤ k + 1 ∧ s' = ⟨X0, [.mst, .dat (.int most), .dat (.int n), .no, .no, .no, .no, .no], k'⟩, fun _ _ => False, fun _ => False, fun _ => False⟩, r0, ?_, ?_⟩
    · refine ⟨rfl, _, rfl, most, rfl, by omega, by omega, by show k < _; omega, fun d d0 d1 => ?_⟩
      obtain ⟨v, rfl⟩ : ∃ v : Nat, d = (v : Int) := ⟨d.toNat, by omega⟩
      refine ⟨v + 1, k + 1, by omega, by omega, by omega, by omega, by omega, ?_⟩
      rw [show ((v + 1 : Nat) : Int) = 1 + (v : Int) by omega]
      rfl
    refine ⟨?_, fun _ _ _ _ _ h => h.elim, fun _ _ _ _ _ h => h.elim, fun _ _ _ _ _ _ h => h.elim⟩
    rintro s' σ1 H1 r1 a1 ⟨n, k1, n1, n6, nm, k1a, k1b, rfl⟩
    refine ⟨⟨K, some m, X0, H, []⟩, rfl, _, ⟨fun s' => ∃ (way : Int) (k' : Nat), k ≤ k' ∧ k' ≤ k + 2 ∧ s' = ⟨X0, [.mst, .dat (.int most), .dat (.int n), .dat (.int way), .no, .no, .no, .no], k'⟩, fun _ _ => False, fun _ => False, fun _ => False⟩, r1, ?_, ?_⟩
    · exact ⟨rfl, 4, rfl, by decide, by decide, by show k1 < _; omega, fun d d0 d1 => ⟨d, k1 + 1, by omega, by omega, rfl⟩⟩
    refine ⟨?_, fun _ _ _ _ _ h => h.elim, fun _ _ _ _ _ h => h.elim, fun _ _ _ _ _ _ h => h.elim⟩
    rintro s' σ H1' r2 a2 ⟨way, k2, k2a, k2b, rfl⟩
    clear r1 a1 a2 r0
    obtain ⟨m', ⟨hm', _⟩, e0⟩ := r2.slot 0 _ rfl
    cases hm'
    obtain ⟨v2, e2, rv2⟩ := r2.slot 2 _ rfl
    cases rv2.intE
    obtain ⟨v3, e3, rv3⟩ := r2.slot 3 _ rfl
    cases rv3.intE
    have hl : σ.length = 8 := r2.len.symm
    have kp1 : Keep (some m) X0 H H1' := Keep.rep r2 xm xs
    have hm1 : MAt (some m) H1' k2 := r2.m
    have mlH : ∀ a, H a = none → a ∉ Ml (some m) := fun a ha z => hm.there a z ha
    clear r2
    show tSeq (tAsg (tLc (iRng1 (tCons (tVar 2) tNil)) (gName 5) tYes (exLF K t_in8) [5]) (gName 4)) _ _ σ H1'
    refine seqAsg ?_
    have xs1 : ∀ a ∈ Ml (some m) ++ X0, H1' a ≠ none := fun a ha => (List.mem_append.mp ha).elim (hm1.there a) fun h => by rw [kp1.old a h]; exact xs a h
    have xt1 : ∀ a ∈ Ml (some m) ++ X0, ∀ ps, H1' a ≠ some (.tbl ps) := fun a ha => (List.mem_append.mp ha).elim (hm1.noTb a) fun h => by rw [kp1.old a h]; exact xt a h
    refine nest_tab xs1 xt1 n6 e2 hl fun p qs H2 kp hp hq mx => ?_
    have fresh : ∀ a, H1' a = none → H a = none := fun a ha => by
      by_cases z : a ∈ Ml (some m)
      · exact absurd ha (hm1.there a z)
      · exact kp1.fresh z ha
    have hp0 := fresh p hp
    have hq0 : ∀ q ∈ qs, H q = none := fun q h => fresh q (hq q h)
    have mp := mlH p hp0
    have mq : ∀ q ∈ qs, q ∉ Ml (some m) := fun q h => mlH q (hq0 q h)
    have kp2 : Keep (some m) X0 H H2 := kp1.trans ⟨fun a o _ e t => kp.at (by simp [Ml]) e t, kp.tb, fun a ha => kp.old a (List.mem_append_right _ ha)⟩
    have hm2 : MAt (some m) H2 k2 := hm1.eq (fun a ha _ => kp.old a (List.mem_append_left _ ha)) kp.tb
    have g4 : ∀ i, i ≠ 4 → (σ.set 4 (some (V.ref p)))[i]? = σ[i]? := fun i hi => List.getElem?_set_ne (fun z => hi z.symm)
    have s8 : S8 m n way p (σ.set 4 (some (V.ref p))) := ⟨by rw [List.length_set]; exact hl, (g4 0 (by decide)).trans e0, (g4 2 (by decide)).trans e2, (g4 3 (by decide)).trans e3, List.getElem?_set_self (by rw [hl]; decide), hkd⟩
    rw [fm_id] at mx
    -- the heap moves with the machine alone
    have mxK : ∀ {H' H'' : Hp} {g : Nat → Nat → Int}, Mx H' p qs (fm n g) → Keep (some m) X0 H' H'' → Mx H'' p qs (fm n g) := fun {H' H'' g} x kk => ⟨kk.at mp x.top, x.len, fun i q r h1 h2 => kk.at (mq q (List.mem_of_getElem? h1)) (x.row i q r h1 h2), x.nd, x.out⟩
    have xsK : ∀ {H' : Hp}, Keep (some m) X0 H H' → ∀ a ∈ X0, H' a ≠ none := fun {H'} k a ha => by rw [k.old a ha]; exact xs a ha
    have xtK : ∀ {H' : Hp}, Keep (some m) X0 H H' → ∀ a ∈ X0, ∀ ps, H' a ≠ some (.tbl ps) := fun {H'} k a ha => by rw [k.old a ha]; exact xt a ha
    refine ⟨_, s8.e2, n, rfl, by omega, by omega, ?_⟩
    rw [Int.toNat_natCast]
    refine ⟨fun i mm σ' H' => mm = n - i ∧ i ≤ n ∧ S8 m n way p σ' ∧ ∃ (g : Nat → Nat → Int) (k' : Nat), Gd n g ∧ k2 ≤ k' ∧ k' ≤ k2 + 6 * i ∧ Keep (some m) X0 H H' ∧ MAt (some m) H' k' ∧ Mx H' p qs (fm n g), ⟨n, rfl, Nat.zero_le _, s8, _, k2, gd_id n, Nat.le_refl _, Nat.le_refl _, kp2, hm2, mx⟩, ?_⟩
    rintro i mm σ' H' ⟨rfl, hi, s8', g, k', gg, ka, kb, kp', hm', mx'⟩
    by_cases hlt : i < n
    · refine .inr ⟨hlt, fun σ2 H2 => S8 m n way p σ2 ∧ ∃ (g : Nat → Nat → Int) (k' : Nat), Gd n g ∧ k2 ≤ k' ∧ k' ≤ k2 + 6 * (i + 1) ∧ Keep (some m) X0 H H2 ∧ MAt (some m) H2 k' ∧ Mx H2 p qs (fm n g), fun σ2 H2 h => ⟨n - (i + 1), by omega, rfl, hlt, h⟩, ?_⟩
      rintro x H'' ⟨rfl, rfl⟩
      have s5 := s8'.set (i := 5) (by decide) (some (V.int (0 + (i : Int))))
      have t5 : (σ'.set 5 (some (V.int (0 + (i : Int)))))[5]? = some (some (V.int (0 + (i : Int)))) := List.getElem?_set_self (by rw [s8'.len]; decide)
      refine ⟨_, t5, _, _, rfl, rfl, _, s5.e2, 0 + (i : Int) + 1, n, rfl, ⟨by omega, by omega, by omega, by omega⟩, ?_⟩
      have en : ((n : Int) - (0 + (i : Int) + 1)).toNat = n - (i + 1) := by omega
      rw [en]
      refine ⟨fun j mm σ' H' => mm = (n - (i + 1)) - j ∧ j ≤ n - (i + 1) ∧ S8 m n way p σ' ∧ σ'[5]? = some (some (V.int (0 + (i : Int)))) ∧ ∃ (g : Nat → Nat → Int) (k' : Nat), Gd n g ∧ k2 ≤ k' ∧ k' ≤ k2 + 6 * i + j ∧ Keep (some m) X0 H H' ∧ MAt (some m) H' k' ∧ Mx H' p qs (fm n g), ⟨n - (i + 1), rfl, Nat.zero_le _, s5, t5, g, k', gg, ka, by omega, kp', hm', mx'⟩, ?_⟩
      clear s5 t5 gg ka kb kp' hm' mx' g k'
      rintro j mm σ' H' ⟨rfl, hj, s8', t5, g, k', gg, ka, kb, kp', hm', mx'⟩
      by_cases hjt : j < n - (i + 1)
      · refine .inr ⟨hjt, fun σ2 H2 => S8 m n way p σ2 ∧ σ2[5]? = some (some (V.int (0 + (i : Int)))) ∧ ∃ (g : Nat → Nat → Int) (k' : Nat), Gd n g ∧ k2 ≤ k' ∧ k' ≤ k2 + 6 * i + (j + 1) ∧ Keep (some m) X0 H H2 ∧ MAt (some m) H2 k' ∧ Mx H2 p qs (fm n g), fun σ2 H2 h => ⟨n - (i + 1) - (j + 1), by omega, rfl, hjt, h⟩, ?_⟩
        rintro x H'' ⟨rfl, rfl⟩
        have s6 := s8'.set (i := 6) (by decide) (some (V.int (0 + (i : Int) + 1 + (j : Int))))
        have t6 : (σ'.set 6 (some (V.int (0 + (i : Int) + 1 + (j : Int)))))[6]? = some (some (V.int (0 + (i : Int) + 1 + (j : Int)))) := List.getElem?_set_self (by rw [s8'.len]; decide)
        have u5 : (σ'.set 6 (some (V.int (0 + (i : Int) + 1 + (j : Int)))))[5]? = some (some (V.int (0 + (i : Int)))) := by rw [List.getElem?_set_ne (by decide)]; exact t5
        -- kind = 2
        have s7 := s6.set (i := 7) (by decide) (some (V.int 2))
        have u6 : ((σ'.set 6 (some (V.int (0 + (i : Int) + 1 + (j : Int))))).set 7 (some (V.int 2)))[6]? = some (some (V.int (0 + (i : Int) + 1 + (j : Int)))) := by rw [List.getElem?_set_ne (by decide)]; exact t6
        have v5 : ((σ'.set 6 (some (V.int (0 + (i : Int) + 1 + (j : Int))))).set 7 (some (V.int 2)))[5]? = some (some (V.int (0 + (i : Int)))) := by rw [List.getElem?_set_ne (by decide)]; exact u5
        have t7 : ((σ'.set 6 (some (V.int (0 + (i : Int) + 1 + (j : Int))))).set 7 (some (V.int 2)))[7]? = some (some (V.int 2)) := List.getElem?_set_self (by rw [s6.len]; decide)
        -- the last statement, whatever the kind
        have last : ∀ (σz : L2.St) (Hz : Hp) (kz : Nat) (v : Int), S8 m n way p σz → σz[5]? = some (some (V.int (0 + (i : Int)))) → σz[6]? = some (some (V.int (0 + (i : Int) + 1 + (j : Int)))) → σz[7]? = some (some (V.int v)) → (v = 2 ∨ v = 3 ∨ v = 4 ∨ v = 6 ∨ v = 0) → k' ≤ kz → kz ≤ k' + 1 → Keep (some m) X0 H Hz → MAt (some m) Hz kz → Mx Hz p qs (fm n g) →
            ∀ D : Ends, (∀ σ2 H2, (S8 m n way p σ2 ∧ σ2[5]? = some (some (V.int (0 + (i : Int)))) ∧ ∃ (g : Nat → Nat → Int) (k' : Nat), Gd n g ∧ k2 ≤ k' ∧ k' ≤ k2 + 6 * i + (j + 1) ∧ Keep (some m) X0 H H2 ∧ MAt (some m) H2 k' ∧ Mx H2 p qs (fm n g)) → D.nx σ2 H2) → tSw K D σz Hz := by
          intro σz Hz kz v z8 z5 z6 z7 hv kz1 kz2 zk zm zx D hD
          refine swap_tab (K := K) (a := i) (b := i + 1 + j) (by omega) (by omega) zx hlt (by omega) (by omega) z8.e4 z5 z6 z7 fun H9 kp9 tb9 mx9 => hD _ _ ⟨z8, z5, _, kz, gd_sw gg (by omega) hv, by omega, by omega, ⟨fun a o ha e t => kp9 a o (fun z => by have := hq0 a z; rw [e] at this; cases this) (zk.ob a o ha e t), zk.tb.trans tb9, fun a ha => ?_⟩, zm.eq (fun a ha hn => ?_) tb9, mx9⟩
          · cases e : Hz a with
            | none => rw [zk.old a ha] at e; exact absurd e (xs a ha)
            | some o => exact (kp9 a o (fun z => xs a ha (hq0 a z)) e).trans (e.symm.trans (zk.old a ha))
          · cases e : Hz a with
            | none => exact absurd e hn
            | some o => exact kp9 a o (fun z => mq a z ha) e
        refine lt8 xm (xsK kp') (xtK kp') s7 v5 u6 hm' (R := fun x kz => kz = k') ⟨_, rfl, _, rfl, rfl⟩ fun x kz hkz Hb kb' mb => ?_
        rw [hkz] at mb
        clear hkz kz
        have xb := mxK mx' kb'
        have kpb := kp'.trans kb'
        -- a drawn kind
        have drawn : ∀ (Hz : Hp) (kz : Nat) (u : V) (d : D), (k' ≤ kz ∧ kz ≤ k' + 1 ∧ ∃ v : Int, d = .int v ∧ (v = 2 ∨ v = 3 ∨ v = 4 ∨ v = 6 ∨ v = 0)) → Keep (some m) X0 Hb Hz → MAt (some m) Hz kz → Rl K (wo Hz (Ml (some m) ++ X0)) u d →
            ∀ D : Ends, (∀ σ2 H2, (S8 m n way p σ2 ∧ σ2[5]? = some (some (V.int (0 + (i : Int)))) ∧ ∃ (g : Nat → Nat → Int) (k' : Nat), Gd n g ∧ k2 ≤ k' ∧ k' ≤ k2 + 6 * i + (j + 1) ∧ Keep (some m) X0 H H2 ∧ MAt (some m) H2 k' ∧ Mx H2 p qs (fm n g)) → D.nx σ2 H2) →
            tSw K D (((σ'.set 6 (some (V.int (0 + (i : Int) + 1 + (j : Int))))).set 7 (some (V.int 2))).set 7 (some u)) Hz := by
          rintro Hz kz u d ⟨kz1, kz2, v, rfl, hv⟩ kk mm ru D hD
          cases ru.intE
          exact last _ Hz kz v (s7.set (by decide) _) (by rw [List.getElem?_set_ne (by decide)]; exact v5) (by rw [List.getElem?_set_ne (by decide)]; exact u6) (List.getElem?_set_self (by rw [s7.len]; decide)) hv kz1 kz2 (kpb.trans kk) mm (mxK xb kk) D hD
        cases x with
        | true =>
          refine iteT ?_
          refine le8 xm (xsK kpb) (xtK kpb) s7 v5 u6 mb (t := t_kA) (R := fun d kz => k' ≤ kz ∧ kz ≤ k' + 1 ∧ ∃ v : Int, d = .int v ∧ (v = 2 ∨ v = 3 ∨ v = 4 ∨ v = 6 ∨ v = 0)) ?_ fun d kz hd u Hc kc mc ru => ?_
          · refine ⟨by show 8 ≤ lim; decide, rfl, 8, rfl, by decide, by decide, by show k' < _; omega, fun z z0 z1 => ?_⟩
            have zc : z = 0 ∨ z = 1 ∨ z = 2 ∨ z = 3 ∨ z = 4 ∨ z = 5 ∨ z = 6 ∨ z = 7 := by omega
            rcases zc with rfl | rfl | rfl | rfl | rfl | rfl | rfl | rfl <;> exact ⟨_, .int _, rfl, rfl, by show k' ≤ k' + 1; omega, by show k' + 1 ≤ _; omega, _, rfl, by decide⟩
          · exact drawn Hc kz u d hd kc mc ru _ fun σ2 H2 h => h
        | false =>
          refine iteF ?_
          refine lt8 xm (xsK kpb) (xtK kpb) s7 v5 u6 mb (R := fun x kz => kz = k') ⟨_, rfl, _, rfl, rfl, rfl, _, rfl, rfl⟩ fun x kz hkz Hd kd md => ?_
          rw [hkz] at md
          clear hkz kz
          have xd := mxK xb kd
          have kpd := kpb.trans kd
          cases x with
          | true =>
            refine iteT ?_
            refine le8 xm (xsK kpd) (xtK kpd) s7 v5 u6 md (t := t_kB) (R := fun d kz => k' ≤ kz ∧ kz ≤ k' + 1 ∧ ∃ v : Int, d = .int v ∧ (v = 2 ∨ v = 3 ∨ v = 4 ∨ v = 6 ∨ v = 0)) ?_ fun d kz hd u Hc kc mc ru => ?_
            · have three : (k' ≤ k' ∧ k' ≤ k' + 1 ∧ ∃ v : Int, D.int 3 = .int v ∧ (v = 2 ∨ v = 3 ∨ v = 4 ∨ v = 6 ∨ v = 0)) := ⟨Nat.le_refl _, by omega, 3, rfl, by decide⟩
              refine ⟨_, rfl, _, rfl, _, rfl, iteD (fun _ => iteT three) fun _ => ?_⟩
              refine ⟨_, rfl, rfl, rfl, _, rfl, ?_⟩
              rw [eqvI]
              refine iteD (fun _ => three) fun _ => ?_
              refine ⟨by show 4 ≤ lim; decide, rfl, 4, rfl, by decide, by decide, by show k' < _; omega, fun z z0 z1 => ?_⟩
              have zc : z = 0 ∨ z = 1 ∨ z = 2 ∨ z = 3 := by omega
              rcases zc with rfl | rfl | rfl | rfl <;> exact ⟨_, .int _, rfl, rfl, by show k' ≤ k' + 1; omega, by show k' + 1 ≤ _; omega, _, rfl, by decide⟩
            · exact drawn Hc kz u d hd (kd.trans kc) mc ru _ fun σ2 H2 h => h
          | false =>
            exact iteF (last _ Hd k' 2 s7 v5 u6 t7 (by decide) (Nat.le_refl _) (by omega) kpd md xd _ fun σ2 H2 h => h)
      · refine .inl ⟨by show n - (i + 1) ≤ j; omega, ?_⟩
        exact ⟨s8', g, k', gg, ka, by omega, kp', hm', mx'⟩
    · refine .inl ⟨by show n ≤ i; omega, ?_⟩
      refine ⟨_, s8'.e4, ?_⟩
      have hidN : ∀ a, H a = none → a ∉ Ml (some m) ++ X0 := fun a ha z => by
        rcases List.mem_append.mp z with z | z
        · exact mlH a ha z
        · exact xs a z ha
      have rlM := mx'.rl (K := K) (hidN p hp0) fun q hq => hidN q (hq0 q hq)
      exact fin (lM (fm n g)) k' (hR (fm n g) k' (tab_fm n1 n6 gg) (by rw [fm_len]; exact nm) (by omega) (by omega)) _ _ (kp'.aft hm') rlM
end
end BW
namespace BW
open PySem L2 DL
abbrev s_law : Stmt := top 59
theorem sc_law : FnScope ["script", "m", "most", "rows", "bonds", "word", "due", "some", "number", "early", "three", "n"] ["script"] (defScope s_law) := ⟨rfl, rfl, rfl, by decide +kernel, rfl, by decide +kernel, by decide +kernel⟩
def exLSs (K : PySem.W.Frag) (T : List (Addr × PySem.Str)) (t : DS) : TS := fun D σ H => ∃ c, c.K = K ∧ LwC c T ∧ c.ow = [] ∧ LS c t D σ H
theorem PSs.exL {X : Cx} {st : List Stmt} {K : PySem.W.Frag} {T : List (Addr × PySem.Str)} {t : DS} (h : ∀ c, c.K = K → LwC c T → c.ow = [] → PSs X st (LS c t)) : PSs X st (exLSs K T t) := ⟨fun pins s σ H Q I ⟨c, hc, fr, ho, q⟩ => (h c hc fr ho).run pins s σ H Q I q⟩
def spLaw (K : PySem.W.Frag) (T : List (Addr × PySem.Str)) : Sp := fun vs H Q _ => ∃ (a : Addr) (ns : List Int), vs = [.ref a] ∧ SqL K H a (ns.map V.int) ∧ ns.length ≤ 63 ∧ (∀ p ∈ T, H p.1 = some (.tbl #[])) ∧ ∀ H', Q (.bl true) H'
section
variable {P : Program} {w : World} {K : PySem.W.Frag} {mg : PySem.Str → Option Value} {base : Heap} {BC NC : Addr} {T : List (Addr × PySem.Str)}
theorem w_law (g_repr : mg "repr" = none) (g_list : mg "list" = none) (g_len : mg "len" = none) (g_range : mg "range" = none) (c__law_table : CalD P w K mg base 3 "_law_table" true sp__law_table) (c__law_word : CalD P w K mg base 3 "_law_word" true sp__law_word) (c_Bonds : MakD P w K mg base 4 "Bonds" BC (sp_Bonds BC)) (c__law_turned_all : CalD P w K mg base 3 "_law_turned_all" false sp__law_turned_all) (c__law_least : CalD P w K mg base 4 "_law_least" false sp__law_least) (c_count_shortest : CalD P w K mg base 27 "count_shortest" false (sp_count_shortestP BC)) (c__law_draw : CalD P w K mg base 2 "_law_draw" true sp__law_draw) (c_word_at : CalD P w K mg base 27 "word_at" false (sp_word_at BC)) (c_word_number : CalD P w K mg base 27 "word_number" false (sp_word_numberP BC)) (cG_shortest_words : CalGen P w K mg base 6 "shortest_words" (spG_shortest_words BC)) (cZ_shortest_words : CalZ P w K mg base 6 "shortest_words" (spZ_shortest_words BC))  (f : Addr) (cdv : Value) (A : Around) (outer : List Env) (s : Shared) (H : Hp) (E : XK) {c : C} (hc : c.K = K) {cc : Addr} (fr : LwC c T) (ho : c.ow = []) (hcd : cdv = .ref cc)
    (gu : (A.deeper (PyProof.Rows.envOfC "law" (defScope s_law) s.heap.objs.size f cdv)).guards = some []) (hr : Room 27 (A.deeper (PyProof.Rows.envOfC "law" (defScope s_law) s.heap.objs.size f cdv))) :
    PSs (cxOf CX0 P w K mg base ["script", "m", "most", "rows", "bonds", "word", "due", "some", "number", "early", "three", "n"] "law" (defScope s_law) f cdv A outer s H E).nox ((defBody s_law).drop 1) (LS c (t_law18 BC K)) :=
  (psd_cons (psd_for PassesOwn.never rfl (pid_tup hc (pd_tup (pad_cons pd_int (pad_cons pd_int (pad_cons pd_int pad_nil))))) (pgd_name 2 sc_law.nd) (psd_cons (psd_set 3 sc_law.nd (pd_callM hc c__law_table hr (by decide) 1 (pad_cons pd_int pad_nil)))
  (psd_cons (psd_par2 4 5 rfl sc_law.nd (pax_dat (pd_make hc c_Bonds hr (by decide) (pad_cons (pd_var 3) pad_nil)) (pax_dat (pd_callM hc c__law_word hr (by decide) 1 (pad_cons (pd_var 3) (pad_cons (pd_var 2) pad_nil))) pax_nil)))
  (psd_cons (psd_set 6 sc_law.nd (pd_call hc c__law_turned_all hr (by decide) (pad_cons (pd_var 3) (pad_cons (pd_call hc c__law_least hr (by decide) (pad_cons (pd_var 3) (pad_cons (pd_var 5) pad_nil))) pad_nil))))
  (psd_cons (psd_if (ptd_cmp (OpR.or op_ne (op_neD hr.units)) (fit_ne hc) (pd_reprE hc gu hr g_repr (pd_listG0 hc cG_shortest_words hr (by decide) (pad_cons (pd_var 4) (pad_cons (pd_fr (pdf_lstN hc g_list 5)) pad_nil)) g_list)) (pd_reprE hc gu hr g_repr (pd_var 6))) (psd_one (psd_ret pd_bl)) psd_nil)
  (psd_cons (psd_if (ptd_cmp (OpR.or op_ne (op_neD hr.units)) (fit_ne hc) (pd_repr g_repr (pd_call hc c_count_shortest hr (by decide) (pad_cons (pd_var 4) (pad_cons (pd_var 5) pad_nil)))) (pd_repr g_repr (pd_lenN hc g_len 6))) (psd_one (psd_ret pd_bl)) psd_nil)
  (psd_cons (psd_set 7 sc_law.nd (pd_fr (pdf_lr1L rfl g_list g_range (pd_lenN hc g_len 6))))
  (psd_cons (psd_if (ptd_cmp op_gt fit_gt (pd_lenN hc g_len 7) pd_int) (psd_one (psd_set 7 sc_law.nd (pd_add hc (pd_fr (pdf_lst (pad_cons pd_int (pad_cons (pd_sub (pd_lenN hc g_len 6) pd_int) pad_nil)))) (pd_fr (pdf_lc (own := [("n", 11)]) rfl sc_law.nd (pid_r1 g_range pd_int) (blkOk_by (N := ["script", "m", "most", "rows", "bonds", "word", "due", "some", "number", "early", "three", "n"]) (sc := defScope s_law) (by decide +kernel)) (fun sB HB CB clB fpB => (pgd_name 11 sc_law.nd)) (fun sB HB CB clB fpB => pts_none) (fun sB HB CB clB fpB => (pd_callM hc c__law_draw hr (by decide) 1 (pad_cons (pd_lenN hc g_len 6) pad_nil)))))))) psd_nil)
  (psd_cons (psd_for PassesOwn.never rfl (pid_list hc (pd_var 7)) (pgd_name 8 sc_law.nd) (psd_cons (psd_if (ptd_cmp (OpR.or op_ne (op_neD hr.units)) (fit_ne hc) (pd_reprD hc gu hr g_repr (pd_call hc c_word_at hr (by decide) (pad_cons (pd_var 4) (pad_cons (pd_var 5) (pad_cons (pd_var 8) pad_nil))))) (pd_reprD hc gu hr g_repr (pd_ixN hc 6 (pd_var 8)))) (psd_one (psd_ret pd_bl)) psd_nil)
  (psd_one (psd_if (ptd_cmp (OpR.or op_ne (op_neD hr.units)) (fit_ne hc) (pd_repr g_repr (pd_call hc c_word_number hr (by decide) (pad_cons (pd_var 4) (pad_cons (pd_fr (pdf_lstOf hc g_list (pd_ixN hc 6 (pd_var 8)))) pad_nil)))) (pd_repr g_repr (pd_var 8))) (psd_one (psd_ret pd_bl)) psd_nil))))
  (psd_one (psd_forZ PassesOwn.never hc cZ_shortest_words hr (by decide) (pad_cons (pd_var 4) (pad_cons (pd_var 5) pad_nil)) (pgd_name 9 sc_law.nd) (psd_cons (psd_if (ptd_cmp (OpR.or op_ne (op_neD hr.units)) (fit_ne hc) (pd_var 9) (pd_ixN hc 6 pd_int)) (psd_one (psd_ret pd_bl)) psd_nil)
  (psd_one psd_break)))))))))))))
  (psd_cons (psd_set 10 sc_law.nd (pd_make hc c_Bonds hr (by decide) (pad_cons (pd_fr (pdf_lst (pad_cons (pd_fr (pdf_lst (pad_cons pd_int (pad_cons pd_int (pad_cons pd_int pad_nil))))) (pad_cons (pd_fr (pdf_lst (pad_cons pd_int (pad_cons pd_int (pad_cons pd_int pad_nil))))) (pad_cons (pd_fr (pdf_lst (pad_cons pd_int (pad_cons pd_int (pad_cons pd_int pad_nil))))) pad_nil))))) pad_nil)))
  (psd_one (psd_ret (pd_andV (pd_cmp (OpR.or op_eq (op_eqD hr.units)) (fit_eq hc) (pd_call hc c_count_shortest hr (by decide) (pad_cons (pd_var 10) (pad_cons (pd_tup (pad_cons pd_int (pad_cons pd_int (pad_cons pd_int (pad_cons pd_int (pad_cons pd_int (pad_cons pd_int pad_nil))))))) pad_nil))) pd_int) (pd_one (pd_cmp (OpR.or op_eq (op_eqD hr.units)) (fit_eq hc) (pd_listG0 hc cG_shortest_words hr (by decide) (pad_cons (pd_var 10) (pad_cons (pd_tup (pad_cons pd_int (pad_cons pd_int pad_nil))) pad_nil)) g_list) (pd_fr (pdf_lst (pad_cons (pd_tup pad_nil) pad_nil))))))))))
theorem ok_law (g_repr : mg "repr" = none) (g_list : mg "list" = none) (g_len : mg "len" = none) (g_range : mg "range" = none) (c__law_table : CalD P w K mg base 3 "_law_table" true sp__law_table) (c__law_word : CalD P w K mg base 3 "_law_word" true sp__law_word) (c_Bonds : MakD P w K mg base 4 "Bonds" BC (sp_Bonds BC)) (c__law_turned_all : CalD P w K mg base 3 "_law_turned_all" false sp__law_turned_all) (c__law_least : CalD P w K mg base 4 "_law_least" false sp__law_least) (c_count_shortest : CalD P w K mg base 27 "count_shortest" false (sp_count_shortestP BC)) (c__law_draw : CalD P w K mg base 2 "_law_draw" true sp__law_draw) (c_word_at : CalD P w K mg base 27 "word_at" false (sp_word_at BC)) (c_word_number : CalD P w K mg base 27 "word_number" false (sp_word_numberP BC)) (cG_shortest_words : CalGen P w K mg base 6 "shortest_words" (spG_shortest_words BC)) (cZ_shortest_words : CalZ P w K mg base 6 "shortest_words" (spZ_shortest_words BC))  {fb : Addr} {fd fdb : FuncData} (F : Fun K "law" "law" s_law (He.fAd K ("law", none)) fd) (Gb : FnOk P w K mg base CX0 2 fb fdb ["script"] (T7.spBegun K)) (hmb : mg "_law_begun" = some (.ref fb)) (kpb : PySem.W.keepIn K (.ref fb) = true) (bb : Binds K fdb ["script"] []) :
    L2G.FnG P w K mg base 28 (He.fAd K ("law", none)) fd ["script"] (spLaw K T) := by
  refine L2G.okGT F sc_law (fun vs H Q E h => ?_) (fun cdv A outer s H vs Q E hcd hr gu h => ?_)
  · obtain ⟨a, ns, rfl, _⟩ := h
    rfl
  · obtain ⟨a, ns, rfl, ha, hl, hpt, fin⟩ := h
    refine ⟨_, pss_cons (ps_set (i := 1) sc_law.nd rfl (by first | exact .inl rfl | exact .inr rfl) (pe_call Gb (hr.mono (by decide)) rfl hmb kpb bb .nil pass0 (pa_cons (pv 0) pa_nil))) (PSs.exL (K := K) (T := T) (t := t_law18 BC K) fun c hc fr ho => w_law g_repr g_list g_len g_range c__law_table c__law_word c_Bonds c__law_turned_all c__law_least c_count_shortest c__law_draw c_word_at c_word_number cG_shortest_words cZ_shortest_words _ cdv A outer s H E hc fr ho hcd gu hr), ?_⟩
    refine ⟨_, rfl, a, ns, rfl, ha, hl, fun m H1 cs gs sb hm => ?_⟩
    have tb1 : LamX.Tabs T H1 := sb.tabs _ fun p hp => LamX.TabS.nil (hpt p hp)
    refine ⟨⟨K, some { m with T := T, kd := none }, [], fun _ => none, []⟩, rfl, ⟨⟨_, rfl, rfl, rfl⟩, fun _ _ z => nomatch z⟩, rfl, ⟨[], [.no, .mst, .no, .no, .no, .no, .no, .no, .no, .no, .no, .no], 0⟩, _, Rep.root (rep_of (X0 := []) (M := some { m with T := T, kd := none }) (fun _ h => (nomatch h)) (fun _ h => (nomatch h)) (fun _ h => (nomatch h)) rfl ⟨cs, gs, 0, ⟨hm.hm, hm.hc, hm.hg, hm.lc, hm.bc, hm.lg, hm.bg⟩, Nat.le_refl _, tb1⟩ (fun i x e => ?_) (fun i p ds e => ?_)) rfl, r_law18 BC K ⟨fun _ => False, fun d _ => d = .bl true, fun _ => False, fun _ => False⟩ (fun _ => rfl), ?_⟩
    · match i, e with
      | 0, e => cases e; trivial
      | 1, e => cases e; exact ⟨_, ⟨rfl, rfl⟩, rfl⟩
      | 2, e => cases e; trivial
      | 3, e => cases e; trivial
      | 4, e => cases e; trivial
      | 5, e => cases e; trivial
      | 6, e => cases e; trivial
      | 7, e => cases e; trivial
      | 8, e => cases e; trivial
      | 9, e => cases e; trivial
      | 10, e => cases e; trivial
      | 11, e => cases e; trivial
    · have mem := List.mem_of_getElem? e
      simp at mem
    · exact ⟨fun _ _ _ _ _ q => q.elim, fun _ _ _ _ _ q => q.elim, fun _ _ _ _ _ q => q.elim, fun d k v H' fi e r => by
        subst r
        cases e
        exact fin H'⟩
end
end BW
namespace BW
open PySem L2 DL
mutual
def D.noIns : D → Bool
  | .lst xs => noInsA xs
  | .tup xs => noInsA xs
  | .ins _ _ _ => false
  | .exc _ _ _ => false
  | .non => true
  | .bl _ => true
  | .int _ => true
  | .str _ => true
  | .dic => true
def noInsA : List D → Bool
  | [] => true
  | d :: r => D.noIns d && noInsA r
end
theorem sqT_off {K : PySem.W.Frag} {A : Hp} {x C dx a : Addr} {fs : List (PySem.Str × V)} {vs : List V} (hx : A x = some (.ins C dx fs)) (h : SqT K A a vs) : SqT K (wo A [x]) a vs := by
  rcases h with h | h
  · refine .inl ?_
    rcases h with h | ⟨o, h⟩
    · exact .inl (wo_of (fun z => by simp at z; subst z; rw [hx] at h; cases h) h)
    · exact .inr ⟨o, wo_of (fun z => by simp at z; subst z; rw [hx] at h; cases h) h⟩
  · exact .inr h
mutual
theorem rl_off {K : PySem.W.Frag} {A : Hp} {x C dx : Addr} {fs : List (PySem.Str × V)} (hx : A x = some (.ins C dx fs)) : ∀ {v : V} {d : D}, Rl K A v d → D.noIns d = true → Rl K (wo A [x]) v d
  | _, _, .non, _ => .non
  | _, _, .bl b, _ => .bl b
  | _, _, .int i, _ => .int i
  | _, _, .str s, _ => .str s
  | _, _, .lst h r, n => .lst (wo_of (fun z => by simp at z; subst z; rw [hx] at h; cases h) h) (rlA_off hx r n)
  | _, _, .tup h r, n => .tup (sqT_off hx h) (rlA_off hx r n)
  | _, _, .dic h, _ => .dic (wo_of (fun z => by simp at z; subst z; rw [hx] at h; cases h) h)
  | _, _, .ins _ _ _, n => by cases n
  | _, _, .exc _ _ _ _, n => by cases n
theorem rlA_off {K : PySem.W.Frag} {A : Hp} {x C dx : Addr} {fs : List (PySem.Str × V)} (hx : A x = some (.ins C dx fs)) : ∀ {vs : List V} {ds : List D}, RlA K A vs ds → noInsA ds = true → RlA K (wo A [x]) vs ds
  | _, _, .nil, _ => .nil
  | _, _, .cons h r, n => .cons (rl_off hx h (Bool.and_eq_true_iff.mp n).1) (rlA_off hx r (Bool.and_eq_true_iff.mp n).2)
end
theorem noIns_ints : ∀ ns : List Int, noInsA (ns.map D.int) = true
  | [] => rfl
  | _ :: r => noIns_ints r
theorem noIns_tM (T : Mat) : D.noIns (tM T) = true := by
  show noInsA (T.map tI) = true
  induction T with
  | nil => rfl
  | cons r T ih =>
    show (noInsA (r.map D.int) && noInsA (T.map tI)) = true
    rw [noIns_ints, ih]
    rfl
abbrev s_init : Stmt := memS 22 0
abbrev s_len : Stmt := memS 22 1
theorem sc_init : FnScope ["self", "rows", "row", "one"] ["self", "rows"] (defScope s_init) := ⟨rfl, rfl, rfl, by decide +kernel, rfl, by decide +kernel, by decide +kernel⟩
theorem sc_len : FnScope ["self"] ["self"] (defScope s_len) := ⟨rfl, rfl, rfl, by decide +kernel, rfl, by decide +kernel, by decide +kernel⟩
section
variable {P : Program} {w : World} {K : PySem.W.Frag} {mg : PySem.Str → Option Value} {base : Heap} {BC : Addr}
theorem ok_len {f : Addr} {fd : FuncData} (F : Fun K "__len__" "Bonds.__len__" s_len f fd) (g_len : mg "len" = none) (g_Bonds : Cls K BC) (g_Bonds_table : NoAttr K BC "table") : FnOk P w K mg base CX0 1 f fd ["self"] (spD K false (sp_len_Bonds BC)) :=
  okD F sc_len [] (fun ds k R ⟨T, h, _⟩ => by rw [h]; rfl) ⟨dRet (dLen (dFld BC "table" (dVar 0))), fun cdv A outer s H E M X0 hr => (psd_one (psd_ret (pd_len rfl g_len (pd_fld rfl g_Bonds g_Bonds_table (pd_var 0))))), fun X ds k R ⟨T, h1, h2, h3⟩ => by
    subst h1
    intro X
    refine ⟨_, rfl, _, _, tM T, rfl, rfl, _, rfl, ?_⟩
    rw [List.length_map]
    exact h3⟩
theorem ok_init {f : Addr} {fd : FuncData} (F : Fun K "__init__" "Bonds.__init__" s_init f fd) (g_tuple : mg "tuple" = none) (g_range : mg "range" = none) (g_len : mg "len" = none) (c_check_table : CalD P w K mg base 3 "check_table" false sp_check_table) (c_weights_from : CalD P w K mg base 2 "weights_from" false sp_weights_from) (g_Bonds : Cls K BC) (g_Bonds_table : NoAttr K BC "table") (g_Bonds_weights : NoAttr K BC "weights") :
    FnOk P w K mg base CX0 4 f fd ["self", "rows"] (spI K BC (sp_Bonds BC)) := by
  refine F.ok sc_init (fun vs H Q E h => ?_) (fun cdv A outer s H vs Q E hr h => ?_)
  · obtain ⟨X0, x, dx, ds, ws, R, rfl, h1, h2, h3, h4, h4t, h5, h6, ra, ⟨T, rfl, _⟩, _⟩ := h
    have := ra.len
    rw [List.length_cons, this]
    rfl
  · obtain ⟨X0, x, dx, ds, ws, R, rfl, hx, hdx, ne, xs, xt, nx, ndx, ra, ⟨T, rfl, ht, hR⟩, fin⟩ := h
    obtain ⟨v, rfl, rv⟩ : ∃ v, ws = [v] ∧ Rl K (wo H (x :: X0)) v (lM T) := by
      cases ra with
      | cons a b => cases b; exact ⟨_, rfl, a⟩
    refine ⟨_, pss_cons (ps_expr (PE.exE (K := K) (t := dCall sp_check_table (dCons (dVar 1) dNil)) fun c hc => pd_call hc c_check_table hr (by decide) (pad_cons (pd_var 1) pad_nil)))
      (pss_cons (ps_fld (pv 0) (PE.exE (K := K) (t := (dTupOf (dFr (dLc (iLst (dVar 1)) (dgN 2) dY (dTupN 2) [2])))) fun c hc => (pd_tupOf hc g_tuple (pd_fr (pdf_lc (own := [("row", 2)]) rfl sc_init.nd (pid_list hc (pd_var 1)) (blkOk_by (N := ["self", "rows", "row", "one"]) (sc := defScope s_init) (by decide +kernel)) (fun _ _ _ _ _ => (pgd_name 2 sc_init.nd)) (fun _ _ _ _ _ => pts_none) (fun _ _ _ _ _ => (pd_tupN hc g_tuple 2)))))) rfl)
      (pss_one (ps_fld (pv 0) (PE.exE (K := K) (t := (dTupOf (dFr (dLc (iR2 (dC (.int 1)) (dOp oAdd (dLenN 1) (dC (.int 1)))) (dgN 3) dY (dCall sp_weights_from (dCons (dFld BC "table" (dVar 0)) (dCons (dVar 3) dNil))) [3])))) fun c hc => (pd_tupOf hc g_tuple (pd_fr (pdf_lc (own := [("one", 3)]) rfl sc_init.nd (pid_r2 g_range pd_int (pd_add hc (pd_lenN hc g_len 1) pd_int)) (blkOk_by (N := ["self", "rows", "row", "one"]) (sc := defScope s_init) (by decide +kernel)) (fun _ _ _ _ _ => (pgd_name 3 sc_init.nd)) (fun _ _ _ _ _ => pts_none) (fun _ _ _ _ _ => (pd_call hc c_weights_from hr (by decide) (pad_cons (pd_fld hc g_Bonds g_Bonds_table (pd_var 0)) (pad_cons (pd_var 3) pad_nil)))))))) rfl))), ?_⟩
    have hT := ht.hi
    -- a state whose only data is the table
    have repT : ∀ (Y : List Addr) (G : Hp) (d0 : Sl), (∀ a ∈ Y, G a ≠ none) → (∀ a ∈ Y, ∀ ps, G a ≠ some (.tbl ps)) → SlOk ⟨K, none, Y, G, []⟩ Y G (some (some (V.ref x))) d0 → (∀ p ds, d0 ≠ .own p ds) → Rl K (wo G Y) v (lM T) → Rep ⟨K, none, Y, G, []⟩ ⟨Y, [d0, .dat (lM T), .no, .no], 0⟩ (L2.start ["self", "rows", "row", "one"] [V.ref x, v]) G := by
      intro Y G d0 hY hT0 h0 hn hv
      refine ⟨Sub.refl _, fun _ _ _ _ => rfl, fun _ h => h, fun _ _ => by simp [Ml], hY, trivial, fun i z e => ?_, fun i j p q ds es e _ _ => ?_, rfl, .refl, hT0⟩
      · match i, e with
        | 0, e => cases e; exact h0
        | 1, e => cases e; exact ⟨v, rfl, hv⟩
        | 2, e => cases e; trivial
        | 3, e => cases e; trivial
      · match i, e with
        | 0, e => cases e; exact absurd rfl (hn _ _)
        | 1, e => cases e
        | 2, e => cases e
        | 3, e => cases e
    have xs1 : ∀ a ∈ x :: X0, H a ≠ none := fun a h => by
      rcases List.mem_cons.mp h with rfl | h
      · rw [hx]; simp
      · exact xs a h
    have xt1 : ∀ a ∈ x :: X0, ∀ ps, H a ≠ some (.tbl ps) := fun a h ps => by
      rcases List.mem_cons.mp h with rfl | h
      · rw [hx]; intro e; cases e
      · exact xt a h ps
    refine ⟨⟨K, none, x :: X0, H, []⟩, rfl, ⟨x :: X0, [.no, .dat (lM T), .no, .no], 0⟩, fun _ _ => True, repT _ H .no xs1 xt1 trivial (fun _ _ z => nomatch z) rv, ?_, ?_⟩
    · exact ⟨_, rfl, T, rfl, ht, trivial⟩
    rintro _ k0 _ _ H1 r1 a1 _
    have x1 : H1 x = some (.ins BC dx []) := by rw [a1.own x List.mem_cons_self]; exact hx
    have s01 : Sub (wo H (x :: X0)) (wo H1 (x :: X0)) := a1.sub
    have o1 : ∀ a ∈ X0, H1 a = H a := fun a h => a1.own a (List.mem_cons_of_mem _ h)
    have t01 : TbK H H1 := r1.tb
    clear r1 a1
    have rv1 := rv.mono s01
    refine ⟨⟨K, none, x :: X0, H1, []⟩, rfl, ⟨x :: X0, [.no, .dat (lM T), .no, .no], 0⟩, fun d _ => d = tM T, repT _ H1 .no (fun a h => by
      rcases List.mem_cons.mp h with rfl | h
      · rw [x1]; simp
      · rw [o1 a h]; exact xs a h) (fun a h ps => by
      rcases List.mem_cons.mp h with rfl | h
      · rw [x1]; intro e; cases e
      · rw [o1 a h]; exact xt a h ps) trivial (fun _ _ z => nomatch z) rv1, ?_, ?_⟩
    · refine ⟨_, rfl, _, rfl, by rw [List.length_map]; exact Nat.le_trans hT (by decide), fun p hp => ⟨fun j acc _ => acc = (T.take j).map tI, rfl, ?_, ?_⟩⟩
      · rintro j d acc k' hd rfl _
        rw [List.getElem?_map] at hd
        obtain ⟨r, hr, rfl⟩ := Option.map_eq_some_iff.mp hd
        refine iteT ⟨_, rfl, ?_⟩
        show _ = (T.take (j + 1)).map tI
        rw [List.take_succ, hr, List.map_append]
        rfl
      · rintro acc k' rfl _
        refine ⟨_, rfl, ?_⟩
        rw [List.length_map, List.take_length]
    rintro _ k1 rfl v1 H2 r2 a2 rt
    have x2 : H2 x = some (.ins BC dx []) := by rw [a2.own x List.mem_cons_self]; exact x1
    have s12 : Sub (wo H1 (x :: X0)) (wo H2 (x :: X0)) := a2.sub
    have o2 : ∀ a ∈ X0, H2 a = H1 a := fun a h => a2.own a (List.mem_cons_of_mem _ h)
    have rt : Rl K (wo H2 (x :: X0)) v1 (tM T) := rt
    have t12 : TbK H1 H2 := r2.tb
    clear r2 a2
    refine ⟨_, rfl, x, BC, dx, [], rfl, x2, g_Bonds, g_Bonds_table, by decide, ?_⟩
    -- the first field stands
    have s23 : Sub (wo H2 (x :: X0)) (wo (upd H2 x (.ins BC dx [("table", v1)])) X0) := fun a o e => by
      obtain ⟨n, e⟩ := wo_ne e
      exact wo_of (fun z => n (List.mem_cons_of_mem _ z)) (by rw [upd_ne (fun z => n (by rw [z]; exact List.mem_cons_self))]; exact e)
    have x3 : (upd H2 x (.ins BC dx [(("table" : PySem.Str), v1)])) x = some (.ins BC dx [("table", v1)]) := upd_same
    have o3 : ∀ a ∈ X0, (upd H2 x (.ins BC dx [(("table" : PySem.Str), v1)])) a = H a := fun a h => by rw [upd_ne (fun z => nx (by rw [← z]; exact h)), o2 a h, o1 a h]
    have rt3 := rt.mono s23
    have rv3 := (rv1.mono s12).mono s23
    have hY3 : ∀ a ∈ X0, (upd H2 x (.ins BC dx [(("table" : PySem.Str), v1)])) a ≠ none := fun a h => by rw [o3 a h]; exact xs a h
    refine ⟨⟨K, none, X0, upd H2 x (.ins BC dx [("table", v1)]), []⟩, rfl, ⟨X0, [.dat (.ins BC ["table"] [tM T]), .dat (lM T), .no, .no], 0⟩, fun d _ => d = tM (wtM T), repT _ _ (.dat (.ins BC ["table"] [tM T])) hY3 (fun a h => by rw [o3 a h]; exact xt a h) ⟨_, rfl, .ins (ns := ["table"]) (vs := [v1]) (wo_of (by simpa [Ml] using nx) x3) rfl (.cons rt3 .nil)⟩ (fun _ _ z => nomatch z) rv3, ?_, ?_⟩
    · refine ⟨_, rfl, 1, _, rfl, rfl, ⟨by omega, by omega, ?_, ?_⟩, ?_⟩
      · rw [List.length_map]; omega
      · rw [List.length_map]; omega
      have en : (((T.map lI).length : Int) + 1 - 1).toNat = T.length := by rw [List.length_map]; omega
      rw [en]
      refine ⟨by rw [rngD_len]; exact Nat.le_trans hT (by decide), fun p hp => ⟨fun j acc _ => acc = (List.range j).map fun i => tI (wtr T i), rfl, ?_, ?_⟩⟩
      · rintro j d acc k' hd rfl _
        obtain ⟨hj, rfl⟩ := rngD_at hd
        refine iteT ⟨_, rfl, _, _, tM T, rfl, rfl, _, rfl, T, _, rfl, ht, by omega, by omega, ?_⟩
        have e : ix (1 + (j : Int)) = j := by unfold ix; omega
        rw [e]
        show _ = (List.range (j + 1)).map _
        rw [range_step]
      · rintro acc k' rfl _
        refine ⟨_, rfl, ?_⟩
        rw [rngD_len]
        show D.tup _ = D.tup ((wtM T).map tI)
        unfold wtM
        rw [List.map_map]
        rfl
    rintro _ k2 rfl v2 H3 r3 a3 rw2
    have s34 : Sub (wo (upd H2 x (.ins BC dx [(("table" : PySem.Str), v1)])) X0) (wo H3 X0) := a3.sub
    have o4 : ∀ a ∈ X0, H3 a = H a := fun a h => (a3.own a h).trans (o3 a h)
    have rw2 : Rl K (wo H3 X0) v2 (tM (wtM T)) := rw2
    have t34 : TbK (upd H2 x (.ins BC dx [("table", v1)])) H3 := r3.tb
    clear r3 a3
    have x4 : (wo H3 X0) x = some (.ins BC dx [("table", v1)]) := s34 x _ (wo_of nx x3)
    have rt4 := rl_off x4 (rt3.mono s34) (noIns_tM T)
    have rw4 := rl_off x4 rw2 (noIns_tM _)
    refine ⟨_, rfl, x, BC, dx, [("table", v1)], rfl, (wo_ne x4).2, g_Bonds, g_Bonds_weights, by show 1 < 1000; decide, ?_⟩
    have s45 : Sub (wo (wo H3 X0) [x]) (wo (upd H3 x (.ins BC dx [(("table" : PySem.Str), v1), ("weights", v2)])) X0) := fun a o e => by
      obtain ⟨n, e⟩ := wo_ne e
      obtain ⟨n2, e⟩ := wo_ne e
      exact wo_of n2 (by rw [upd_ne (fun z => n (by rw [z]; exact List.mem_cons_self))]; exact e)
    refine fin (bnd BC T) 0 hR (upd H3 x (.ins BC dx [(("table" : PySem.Str), v1), ("weights", v2)])) (fun a o e => ?_) (fun a h => by rw [upd_ne (fun z => nx (by rw [← z]; exact h)), o4 a h]) (t01.trans (t12.trans ((TbK.at_ x2).trans (t34.trans (TbK.at_ (wo_ne x4).2))))) ?_
    · obtain ⟨n, _⟩ := wo_ne e
      have e4 := s34 a o (s23 a o (s12 a o (s01 a o e)))
      obtain ⟨n2, e4⟩ := wo_ne e4
      exact wo_of n2 (by rw [upd_ne (fun z => n (by rw [z]; exact List.mem_cons_self))]; exact e4)
    · exact .ins (ns := ["table", "weights"]) (vs := [v1, v2]) (wo_of nx upd_same) rfl (.cons (rt4.mono s45) (.cons (rw4.mono s45) .nil))
end
end BW
namespace BW
open PySem L2 DL
theorem toFun {K : PySem.W.Frag} {x qual : PySem.Str} {st : Stmt} {f : Addr} {fd : FuncData} (F : FunD K x qual (defArgs st) (defBody st) (defScope st) [] [] f fd) : Fun K x qual st f fd := by
  obtain ⟨oc, od, dV, kV, doc, pm, an, cdv, ct, osl, rfl, lk, hcd, hD, hK⟩ := F.ex
  rcases hD with ⟨_, rfl⟩ | ⟨e, _⟩
  · exact ⟨⟨oc, od, kV, doc, pm, an, cdv, ct, osl, rfl, lk, hcd⟩, F.kp⟩
  · exact absurd rfl e
set_option maxHeartbeats 0 in
theorem facts {P : Program} {w : World} {K : PySem.W.Frag} {h : Heap} {mg : PySem.Str → Option Value} {f0 : Addr} (X : K.In h) (G : h.Ns mainGlobals mg) (hfa : mg ("law" : PySem.Str) = some (.ref f0)) (c : He.SaysX fa fn tabL tfL exB w h K) :
    ∃ fd : FuncData, (∀ (s : Shared) (v : Value), BindsTo s fd ⟨[v], []⟩ [("script", v)]) ∧ ∀ base : Heap, K.In base → base.Ns mainGlobals mg → (∀ n ∈ tfL, LamX.TabB base mg (He.cT K n).1 (He.cT K n).2) → L2G.FnG P w K mg base 28 f0 fd ["script"] (spLaw K (TTof K lamL)) := by
  obtain ⟨fd_is_whole, D_is_whole⟩ := c.t.d.def_ 0 (d := dd "is_whole" 14) rfl
  have F_is_whole : Fun K "is_whole" "is_whole" (top 14) (He.fAd K ("is_whole", none)) fd_is_whole := toFun D_is_whole
  obtain ⟨fd_is_letter, D_is_letter⟩ := c.t.d.def_ 1 (d := dd "is_letter" 15) rfl
  have F_is_letter : Fun K "is_letter" "is_letter" (top 15) (He.fAd K ("is_letter", none)) fd_is_letter := toFun D_is_letter
  obtain ⟨fd_can_stand, D_can_stand⟩ := c.t.d.def_ 2 (d := dd "can_stand" 17) rfl
  have F_can_stand : Fun K "can_stand" "can_stand" (top 17) (He.fAd K ("can_stand", none)) fd_can_stand := toFun D_can_stand
  obtain ⟨fd_check_shape, D_check_shape⟩ := c.t.d.def_ 3 (d := dd "check_shape" 18) rfl
  have F_check_shape : Fun K "check_shape" "check_shape" (top 18) (He.fAd K ("check_shape", none)) fd_check_shape := toFun D_check_shape
  obtain ⟨fd_check_table, D_check_table⟩ := c.t.d.def_ 4 (d := dd "check_table" 19) rfl
  have F_check_table : Fun K "check_table" "check_table" (top 19) (He.fAd K ("check_table", none)) fd_check_table := toFun D_check_table
  obtain ⟨fd_weight_of, D_weight_of⟩ := c.t.d.def_ 5 (d := dd "weight_of" 20) rfl
  have F_weight_of : Fun K "weight_of" "weight_of" (top 20) (He.fAd K ("weight_of", none)) fd_weight_of := toFun D_weight_of
  obtain ⟨fd_weights_from, D_weights_from⟩ := c.t.d.def_ 6 (d := dd "weights_from" 21) rfl
  have F_weights_from : Fun K "weights_from" "weights_from" (top 21) (He.fAd K ("weights_from", none)) fd_weights_from := toFun D_weights_from
  obtain ⟨fd_as_word, D_as_word⟩ := c.t.d.def_ 7 (d := dd "as_word" 24) rfl
  have F_as_word : Fun K "as_word" "as_word" (top 24) (He.fAd K ("as_word", none)) fd_as_word := toFun D_as_word
  obtain ⟨fd_first_row, D_first_row⟩ := c.t.d.def_ 8 (d := dd "first_row" 26) rfl
  have F_first_row : Fun K "first_row" "first_row" (top 26) (He.fAd K ("first_row", none)) fd_first_row := toFun D_first_row
  obtain ⟨fd_pressed, D_pressed⟩ := c.t.d.def_ 9 (d := dd "pressed" 27) rfl
  have F_pressed : Fun K "pressed" "pressed" (top 27) (He.fAd K ("pressed", none)) fd_pressed := toFun D_pressed
  obtain ⟨fd_row_behind, D_row_behind⟩ := c.t.d.def_ 10 (d := dd "row_behind" 28) rfl
  have F_row_behind : Fun K "row_behind" "row_behind" (top 28) (He.fAd K ("row_behind", none)) fd_row_behind := toFun D_row_behind
  obtain ⟨fd_fallen, D_fallen⟩ := c.t.d.def_ 11 (d := dd "fallen" 29) rfl
  have F_fallen : Fun K "fallen" "fallen" (top 29) (He.fAd K ("fallen", none)) fd_fallen := toFun D_fallen
  obtain ⟨fd_way_down, D_way_down⟩ := c.t.d.def_ 12 (d := dd "way_down" 30) rfl
  have F_way_down : Fun K "way_down" "way_down" (top 30) (He.fAd K ("way_down", none)) fd_way_down := toFun D_way_down
  obtain ⟨fd_row_of, D_row_of⟩ := c.t.d.def_ 13 (d := dd "row_of" 31) rfl
  have F_row_of : Fun K "row_of" "row_of" (top 31) (He.fAd K ("row_of", none)) fd_row_of := toFun D_row_of
  obtain ⟨fd_length, D_length⟩ := c.t.d.def_ 14 (d := dd "length" 32) rfl
  have F_length : Fun K "length" "length" (top 32) (He.fAd K ("length", none)) fd_length := toFun D_length
  obtain ⟨fd_check_led, D_check_led⟩ := c.t.d.def_ 15 (d := dd "check_led" 35) rfl
  have F_check_led : Fun K "check_led" "check_led" (top 35) (He.fAd K ("check_led", none)) fd_check_led := toFun D_check_led
  obtain ⟨fd_is_shortest, D_is_shortest⟩ := c.t.d.def_ 16 (d := dd "is_shortest" 36) rfl
  have F_is_shortest : Fun K "is_shortest" "is_shortest" (top 36) (He.fAd K ("is_shortest", none)) fd_is_shortest := toFun D_is_shortest
  obtain ⟨fd_row_to_spell, D_row_to_spell⟩ := c.t.d.def_ 17 (d := dd "row_to_spell" 38) rfl
  have F_row_to_spell : Fun K "row_to_spell" "row_to_spell" (top 38) (He.fAd K ("row_to_spell", none)) fd_row_to_spell := toFun D_row_to_spell
  obtain ⟨fd_counted, D_counted⟩ := c.t.d.def_ 18 (d := dd "counted" 39) rfl
  have F_counted : Fun K "counted" "counted" (top 39) (He.fAd K ("counted", none)) fd_counted := toFun D_counted
  obtain ⟨fd_count_shortest, D_count_shortest⟩ := c.t.d.def_ 19 (d := dd "count_shortest" 40) rfl
  have F_count_shortest : Fun K "count_shortest" "count_shortest" (top 40) (He.fAd K ("count_shortest", none)) fd_count_shortest := toFun D_count_shortest
  obtain ⟨fd_shortest_words, D_shortest_words⟩ := c.t.d.def_ 20 (d := dd "shortest_words" 41) rfl
  have F_shortest_words : Fun K "shortest_words" "shortest_words" (top 41) (He.fAd K ("shortest_words", none)) fd_shortest_words := toFun D_shortest_words
  obtain ⟨fd_word_at, D_word_at⟩ := c.t.d.def_ 21 (d := dd "word_at" 42) rfl
  have F_word_at : Fun K "word_at" "word_at" (top 42) (He.fAd K ("word_at", none)) fd_word_at := toFun D_word_at
  obtain ⟨fd_word_number, D_word_number⟩ := c.t.d.def_ 22 (d := dd "word_number" 43) rfl
  have F_word_number : Fun K "word_number" "word_number" (top 43) (He.fAd K ("word_number", none)) fd_word_number := toFun D_word_number
  obtain ⟨fd__law_mixed, D__law_mixed⟩ := c.t.d.def_ 23 (d := dd "_law_mixed" 45) rfl
  have F__law_mixed : Fun K "_law_mixed" "_law_mixed" (top 45) (He.fAd K ("_law_mixed", none)) fd__law_mixed := toFun D__law_mixed
  obtain ⟨fd__law_folded, D__law_folded⟩ := c.t.d.def_ 24 (d := dd "_law_folded" 46) rfl
  have F__law_folded : Fun K "_law_folded" "_law_folded" (top 46) (He.fAd K ("_law_folded", none)) fd__law_folded := toFun D__law_folded
  obtain ⟨fd__law_draw, D__law_draw⟩ := c.t.d.def_ 25 (d := dd "_law_draw" 47) rfl
  have F__law_draw : Fun K "_law_draw" "_law_draw" (top 47) (He.fAd K ("_law_draw", none)) fd__law_draw := toFun D__law_draw
  obtain ⟨fd__law_begun, D__law_begun⟩ := c.t.d.def_ 26 (d := dd "_law_begun" 48) rfl
  have F__law_begun : Fun K "_law_begun" "_law_begun" (top 48) (He.fAd K ("_law_begun", none)) fd__law_begun := toFun D__law_begun
  obtain ⟨fd__law_table, D__law_table⟩ := c.t.d.def_ 27 (d := dd "_law_table" 49) rfl
  have F__law_table : Fun K "_law_table" "_law_table" (top 49) (He.fAd K ("_law_table", none)) fd__law_table := toFun D__law_table
  obtain ⟨fd__law_weight, D__law_weight⟩ := c.t.d.def_ 28 (d := dd "_law_weight" 50) rfl
  have F__law_weight : Fun K "_law_weight" "_law_weight" (top 50) (He.fAd K ("_law_weight", none)) fd__law_weight := toFun D__law_weight
  obtain ⟨fd__law_press, D__law_press⟩ := c.t.d.def_ 29 (d := dd "_law_press" 51) rfl
  have F__law_press : Fun K "_law_press" "_law_press" (top 51) (He.fAd K ("_law_press", none)) fd__law_press := toFun D__law_press
  obtain ⟨fd__law_row, D__law_row⟩ := c.t.d.def_ 30 (d := dd "_law_row" 52) rfl
  have F__law_row : Fun K "_law_row" "_law_row" (top 52) (He.fAd K ("_law_row", none)) fd__law_row := toFun D__law_row
  obtain ⟨fd__law_below, D__law_below⟩ := c.t.d.def_ 31 (d := dd "_law_below" 53) rfl
  have F__law_below : Fun K "_law_below" "_law_below" (top 53) (He.fAd K ("_law_below", none)) fd__law_below := toFun D__law_below
  obtain ⟨fd__law_least, D__law_least⟩ := c.t.d.def_ 32 (d := dd "_law_least" 54) rfl
  have F__law_least : Fun K "_law_least" "_law_least" (top 54) (He.fAd K ("_law_least", none)) fd__law_least := toFun D__law_least
  obtain ⟨fd__law_word, D__law_word⟩ := c.t.d.def_ 33 (d := dd "_law_word" 55) rfl
  have F__law_word : Fun K "_law_word" "_law_word" (top 55) (He.fAd K ("_law_word", none)) fd__law_word := toFun D__law_word
  obtain ⟨fd__law_stretch, D__law_stretch⟩ := c.t.d.def_ 34 (d := dd "_law_stretch" 56) rfl
  have F__law_stretch : Fun K "_law_stretch" "_law_stretch" (top 56) (He.fAd K ("_law_stretch", none)) fd__law_stretch := toFun D__law_stretch
  obtain ⟨fd__law_moved, D__law_moved⟩ := c.t.d.def_ 35 (d := dd "_law_moved" 57) rfl
  have F__law_moved : Fun K "_law_moved" "_law_moved" (top 57) (He.fAd K ("_law_moved", none)) fd__law_moved := toFun D__law_moved
  obtain ⟨fd__law_turned_all, D__law_turned_all⟩ := c.t.d.def_ 36 (d := dd "_law_turned_all" 58) rfl
  have F__law_turned_all : Fun K "_law_turned_all" "_law_turned_all" (top 58) (He.fAd K ("_law_turned_all", none)) fd__law_turned_all := toFun D__law_turned_all
  obtain ⟨fd_law, D_law⟩ := c.t.d.def_ 37 (d := dd "law" 59) rfl
  have F_law : Fun K "law" "law" (top 59) (He.fAd K ("law", none)) fd_law := toFun D_law
  obtain ⟨fd_init, D_init⟩ := c.t.d.def_ 38 (d := dm "Bonds" "__init__" "Bonds.__init__" 22 0) rfl
  obtain ⟨fd_len, D_len⟩ := c.t.d.def_ 39 (d := dm "Bonds" "__len__" "Bonds.__len__" 22 1) rfl
  have F_init : Fun K "__init__" "Bonds.__init__" s_init (He.fAd K ("Bonds", some "__init__")) fd_init := toFun D_init
  have F_len : Fun K "__len__" "Bonds.__len__" s_len (He.fAd K ("Bonds", some "__len__")) fd_len := toFun D_len
  have e0 := hfa.symm.trans (He.glo_ok X G (c.t.d.fact 37 (f := .glo "law") rfl))
  cases e0
  have gW : KdAt P w K mg "WEIGHTS" kd_WEIGHTS := kdB_ok (kvs := wts0) (Bool.and_eq_true_iff.mp c.more).1 (He.glo_ok X G (c.t.d.fact 62 (f := .glo "WEIGHTS") rfl)) (by decide)
  have gC : Cls K (He.ga K "Bonds") := He.cls_ok (c.t.d.fact 57 (f := .cls "Bonds") rfl)
  have gT : NoAttr K (He.ga K "Bonds") "table" := He.noat_ok (c.t.d.fact 58 (f := .noat "Bonds" "table") rfl)
  have gV : NoAttr K (He.ga K "Bonds") "weights" := He.noat_ok (c.t.d.fact 59 (f := .noat "Bonds" "weights") rfl)
  have b0 := FunD.bindsA (ps := ["script"]) D_law fun _ _ _ _ _ _ us hl => match us, hl with | [_], _ => rfl
  obtain ⟨xk, xm⟩ := Bool.and_eq_true_iff.mp c.more
  obtain ⟨xn, xm⟩ := Bool.and_eq_true_iff.mp xm
  have hnd : (lamL.map fun x => (He.cT K x.1).2).Nodup := of_decide_eq_true xn
  have xt := xm
  refine ⟨fd_law, fun s v => b0 s [v] rfl, fun base hb hn TB => ?_⟩
  have ok__law_folded := T7.ok__law_folded (P := P) (w := w) (base := base) (mg := mg) (K := K) (f := He.fAd K ("_law_folded", none)) (fd := fd__law_folded) F__law_folded (He.free_ok X G (c.t.d.fact 44 (f := .free "range") rfl)) (He.free_ok X G (c.t.d.fact 45 (f := .free "enumerate") rfl)) (He.free_ok X G (c.t.d.fact 39 (f := .free "int") rfl))
  have ok__law_begun := T7.ok__law_begun (P := P) (w := w) (base := base) (mg := mg) F__law_begun ok__law_folded (He.glo_ok X G (c.t.d.fact 24 (f := .glo "_law_folded") rfl)) D__law_folded.kp (D__law_folded.bindsN fun _ _ _ _ _ _ us hl => match us, hl with | [_], _ => rfl)
  have ok__law_mixed : FnOk P w K mg base CX0 1 _ fd__law_mixed ["cell", "n"] (spD K false sp__law_mixed) := okD F__law_mixed sc__law_mixed [] (by intro ds k R h; first | (rcases h with ⟨_, _, _, rfl, _⟩ | ⟨rfl, _⟩ <;> rfl) | (obtain ⟨rfl, _⟩ := h; rfl) | (obtain ⟨_, rfl, _⟩ := h; rfl) | (obtain ⟨_, _, rfl, _⟩ := h; rfl) | (obtain ⟨_, _, _, rfl, _⟩ := h; rfl) | (obtain ⟨_, _, _, _, rfl, _⟩ := h; rfl) | (obtain ⟨_, _, _, _, _, rfl, _⟩ := h; rfl) | (obtain ⟨_, _, _, _, _, _, rfl, _⟩ := h; rfl) | (obtain ⟨_, _, _, _, _, _, _, rfl, _⟩ := h; rfl)) ⟨_, fun cdv A outer s H E M X0 hr => w__law_mixed (P := P) (w := w) (base := base) (g_int := (He.free_ok X G (c.t.d.fact 39 (f := .free "int") rfl))) _ _ cdv A outer s H E M X0 hr, r__law_mixed⟩
  have c__law_mixed : CalD P w K mg base 1 "_law_mixed" false sp__law_mixed := ⟨_, _, ["cell", "n"], ok__law_mixed, (He.glo_ok X G (c.t.d.fact 23 (f := .glo "_law_mixed") rfl)), D__law_mixed.kp, D__law_mixed.bindsN fun _ _ _ _ _ _ us hl => match us, hl with | [_, _], _ => rfl⟩
  have ok__law_draw : FnOk P w K mg base CX0 2 _ fd__law_draw ["m", "limit"] (spD K true sp__law_draw) := T7.ok__law_draw (fm := 0) F__law_draw c__law_mixed (He.free_ok X G (c.t.d.fact 43 (f := .free "len") rfl)) (He.free_ok X G (c.t.d.fact 39 (f := .free "int") rfl))
  have c__law_draw : CalD P w K mg base 2 "_law_draw" true sp__law_draw := ⟨_, _, ["m", "limit"], ok__law_draw, (He.glo_ok X G (c.t.d.fact 25 (f := .glo "_law_draw") rfl)), D__law_draw.kp, D__law_draw.bindsN fun _ _ _ _ _ _ us hl => match us, hl with | [_, _], _ => rfl⟩
  have ok__law_table := ok__law_table (P := P) (w := w) (base := base) (mg := mg) F__law_table (He.free_ok X G (c.t.d.fact 44 (f := .free "range") rfl)) c__law_draw
  have c__law_table : CalD P w K mg base 3 "_law_table" true sp__law_table := ⟨_, _, ["m", "most"], ok__law_table, (He.glo_ok X G (c.t.d.fact 27 (f := .glo "_law_table") rfl)), D__law_table.kp, D__law_table.bindsN fun _ _ _ _ _ _ us hl => match us, hl with | [_, _], _ => rfl⟩
  have ok__law_weight : FnOk P w K mg base CX0 1 _ fd__law_weight ["rows", "a", "b"] (spD K false sp__law_weight) := okD F__law_weight sc__law_weight [] (by intro ds k R h; first | (rcases h with ⟨_, _, _, rfl, _⟩ | ⟨rfl, _⟩ <;> rfl) | (obtain ⟨rfl, _⟩ := h; rfl) | (obtain ⟨_, rfl, _⟩ := h; rfl) | (obtain ⟨_, _, rfl, _⟩ := h; rfl) | (obtain ⟨_, _, _, rfl, _⟩ := h; rfl) | (obtain ⟨_, _, _, _, rfl, _⟩ := h; rfl) | (obtain ⟨_, _, _, _, _, rfl, _⟩ := h; rfl) | (obtain ⟨_, _, _, _, _, _, rfl, _⟩ := h; rfl) | (obtain ⟨_, _, _, _, _, _, _, rfl, _⟩ := h; rfl)) ⟨_, fun cdv A outer s H E M X0 hr => w__law_weight (P := P) (w := w) (base := base)  _ _ cdv A outer s H E M X0 hr, r__law_weight⟩
  have c__law_weight : CalD P w K mg base 1 "_law_weight" false sp__law_weight := ⟨_, _, ["rows", "a", "b"], ok__law_weight, (He.glo_ok X G (c.t.d.fact 28 (f := .glo "_law_weight") rfl)), D__law_weight.kp, D__law_weight.bindsN fun _ _ _ _ _ _ us hl => match us, hl with | [_, _, _], _ => rfl⟩
  have ok__law_press : FnOk P w K mg base CX0 2 _ fd__law_press ["rows", "row", "a"] (spD K false sp__law_press) := okD F__law_press sc__law_press [] (by intro ds k R h; first | (rcases h with ⟨_, _, _, rfl, _⟩ | ⟨rfl, _⟩ <;> rfl) | (obtain ⟨rfl, _⟩ := h; rfl) | (obtain ⟨_, rfl, _⟩ := h; rfl) | (obtain ⟨_, _, rfl, _⟩ := h; rfl) | (obtain ⟨_, _, _, rfl, _⟩ := h; rfl) | (obtain ⟨_, _, _, _, rfl, _⟩ := h; rfl) | (obtain ⟨_, _, _, _, _, rfl, _⟩ := h; rfl) | (obtain ⟨_, _, _, _, _, _, rfl, _⟩ := h; rfl) | (obtain ⟨_, _, _, _, _, _, _, rfl, _⟩ := h; rfl)) ⟨_, fun cdv A outer s H E M X0 hr => w__law_press (P := P) (w := w) (base := base) (g_tuple := (He.free_ok X G (c.t.d.fact 42 (f := .free "tuple") rfl))) (g_range := (He.free_ok X G (c.t.d.fact 44 (f := .free "range") rfl))) (g_len := (He.free_ok X G (c.t.d.fact 43 (f := .free "len") rfl))) (c__law_weight := c__law_weight) _ _ cdv A outer s H E M X0 hr, r__law_press⟩
  have c__law_press : CalD P w K mg base 2 "_law_press" false sp__law_press := ⟨_, _, ["rows", "row", "a"], ok__law_press, (He.glo_ok X G (c.t.d.fact 29 (f := .glo "_law_press") rfl)), D__law_press.kp, D__law_press.bindsN fun _ _ _ _ _ _ us hl => match us, hl with | [_, _, _], _ => rfl⟩
  have ok__law_word : FnOk P w K mg base CX0 3 _ fd__law_word ["m", "rows", "most"] (spD K true sp__law_word) := okD F__law_word sc__law_word [3] (by intro ds k R h; first | (rcases h with ⟨_, _, _, rfl, _⟩ | ⟨rfl, _⟩ <;> rfl) | (obtain ⟨rfl, _⟩ := h; rfl) | (obtain ⟨_, rfl, _⟩ := h; rfl) | (obtain ⟨_, _, rfl, _⟩ := h; rfl) | (obtain ⟨_, _, _, rfl, _⟩ := h; rfl) | (obtain ⟨_, _, _, _, rfl, _⟩ := h; rfl) | (obtain ⟨_, _, _, _, _, rfl, _⟩ := h; rfl) | (obtain ⟨_, _, _, _, _, _, rfl, _⟩ := h; rfl) | (obtain ⟨_, _, _, _, _, _, _, rfl, _⟩ := h; rfl)) ⟨_, fun cdv A outer s H E M X0 hr => w__law_word (P := P) (w := w) (base := base) (g_len := (He.free_ok X G (c.t.d.fact 43 (f := .free "len") rfl))) (g_range := (He.free_ok X G (c.t.d.fact 44 (f := .free "range") rfl))) (g_tuple := (He.free_ok X G (c.t.d.fact 42 (f := .free "tuple") rfl))) (c__law_draw := c__law_draw) (c__law_press := c__law_press) _ _ cdv A outer s H E M X0 hr, r__law_word⟩
  have c__law_word : CalD P w K mg base 3 "_law_word" true sp__law_word := ⟨_, _, ["m", "rows", "most"], ok__law_word, (He.glo_ok X G (c.t.d.fact 33 (f := .glo "_law_word") rfl)), D__law_word.kp, D__law_word.bindsN fun _ _ _ _ _ _ us hl => match us, hl with | [_, _, _], _ => rfl⟩
  have ok_check_shape : FnOk P w K mg base CX0 1 _ fd_check_shape ["rows"] (spD K false sp_check_shape) := okD F_check_shape sc_check_shape [] (by intro ds k R h; first | (rcases h with ⟨_, _, _, rfl, _⟩ | ⟨rfl, _⟩ <;> rfl) | (obtain ⟨rfl, _⟩ := h; rfl) | (obtain ⟨_, rfl, _⟩ := h; rfl) | (obtain ⟨_, _, rfl, _⟩ := h; rfl) | (obtain ⟨_, _, _, rfl, _⟩ := h; rfl) | (obtain ⟨_, _, _, _, rfl, _⟩ := h; rfl) | (obtain ⟨_, _, _, _, _, rfl, _⟩ := h; rfl) | (obtain ⟨_, _, _, _, _, _, rfl, _⟩ := h; rfl) | (obtain ⟨_, _, _, _, _, _, _, rfl, _⟩ := h; rfl)) ⟨_, fun cdv A outer s H E M X0 hr => w_check_shape (P := P) (w := w) (base := base) (g_isinstance := (He.free_ok X G (c.t.d.fact 38 (f := .free "isinstance") rfl))) (g_list := (He.free_ok X G (c.t.d.fact 41 (f := .free "list") rfl))) (g_tuple := (He.free_ok X G (c.t.d.fact 42 (f := .free "tuple") rfl))) (g_len := (He.free_ok X G (c.t.d.fact 43 (f := .free "len") rfl))) (g_MOST_LETTERS := (He.int_ok X G (c.t.d.fact 51 (f := .int "MOST_LETTERS" (6)) rfl))) _ _ cdv A outer s H E M X0 hr, r_check_shape⟩
  have c_check_shape : CalD P w K mg base 1 "check_shape" false sp_check_shape := ⟨_, _, ["rows"], ok_check_shape, (He.glo_ok X G (c.t.d.fact 3 (f := .glo "check_shape") rfl)), D_check_shape.kp, D_check_shape.bindsN fun _ _ _ _ _ _ us hl => match us, hl with | [_], _ => rfl⟩
  have ok_is_whole : FnOk P w K mg base CX0 1 _ fd_is_whole ["value"] (spD K false sp_is_whole) := okD F_is_whole sc_is_whole [] (by intro ds k R h; first | (rcases h with ⟨_, _, _, rfl, _⟩ | ⟨rfl, _⟩ <;> rfl) | (obtain ⟨rfl, _⟩ := h; rfl) | (obtain ⟨_, rfl, _⟩ := h; rfl) | (obtain ⟨_, _, rfl, _⟩ := h; rfl) | (obtain ⟨_, _, _, rfl, _⟩ := h; rfl) | (obtain ⟨_, _, _, _, rfl, _⟩ := h; rfl) | (obtain ⟨_, _, _, _, _, rfl, _⟩ := h; rfl) | (obtain ⟨_, _, _, _, _, _, rfl, _⟩ := h; rfl) | (obtain ⟨_, _, _, _, _, _, _, rfl, _⟩ := h; rfl)) ⟨_, fun cdv A outer s H E M X0 hr => w_is_whole (P := P) (w := w) (base := base) (g_isinstance := (He.free_ok X G (c.t.d.fact 38 (f := .free "isinstance") rfl))) (g_int := (He.free_ok X G (c.t.d.fact 39 (f := .free "int") rfl))) (g_bool := (He.free_ok X G (c.t.d.fact 40 (f := .free "bool") rfl))) _ _ cdv A outer s H E M X0 hr, r_is_whole⟩
  have c_is_whole : CalD P w K mg base 1 "is_whole" false sp_is_whole := ⟨_, _, ["value"], ok_is_whole, (He.glo_ok X G (c.t.d.fact 0 (f := .glo "is_whole") rfl)), D_is_whole.kp, D_is_whole.bindsN fun _ _ _ _ _ _ us hl => match us, hl with | [_], _ => rfl⟩
  have ok_can_stand : FnOk P w K mg base CX0 2 _ fd_can_stand ["rows", "one", "other"] (spD K false sp_can_stand) := okD F_can_stand sc_can_stand [] (by intro ds k R h; first | (rcases h with ⟨_, _, _, rfl, _⟩ | ⟨rfl, _⟩ <;> rfl) | (obtain ⟨rfl, _⟩ := h; rfl) | (obtain ⟨_, rfl, _⟩ := h; rfl) | (obtain ⟨_, _, rfl, _⟩ := h; rfl) | (obtain ⟨_, _, _, rfl, _⟩ := h; rfl) | (obtain ⟨_, _, _, _, rfl, _⟩ := h; rfl) | (obtain ⟨_, _, _, _, _, rfl, _⟩ := h; rfl) | (obtain ⟨_, _, _, _, _, _, rfl, _⟩ := h; rfl) | (obtain ⟨_, _, _, _, _, _, _, rfl, _⟩ := h; rfl)) ⟨_, fun cdv A outer s H E M X0 hr => w_can_stand (P := P) (w := w) (base := base) (g_OWN_BOND := (He.int_ok X G (c.t.d.fact 53 (f := .int "OWN_BOND" (1)) rfl))) (g_WEIGHTS := gW) (c_is_whole := c_is_whole) _ _ cdv A outer s H E M X0 hr, r_can_stand⟩
  have c_can_stand : CalD P w K mg base 2 "can_stand" false sp_can_stand := ⟨_, _, ["rows", "one", "other"], ok_can_stand, (He.glo_ok X G (c.t.d.fact 2 (f := .glo "can_stand") rfl)), D_can_stand.kp, D_can_stand.bindsN fun _ _ _ _ _ _ us hl => match us, hl with | [_, _, _], _ => rfl⟩
  have ok_check_table : FnOk P w K mg base CX0 3 _ fd_check_table ["rows"] (spD K false sp_check_table) := okD F_check_table sc_check_table [] (by intro ds k R h; first | (rcases h with ⟨_, _, _, rfl, _⟩ | ⟨rfl, _⟩ <;> rfl) | (obtain ⟨rfl, _⟩ := h; rfl) | (obtain ⟨_, rfl, _⟩ := h; rfl) | (obtain ⟨_, _, rfl, _⟩ := h; rfl) | (obtain ⟨_, _, _, rfl, _⟩ := h; rfl) | (obtain ⟨_, _, _, _, rfl, _⟩ := h; rfl) | (obtain ⟨_, _, _, _, _, rfl, _⟩ := h; rfl) | (obtain ⟨_, _, _, _, _, _, rfl, _⟩ := h; rfl) | (obtain ⟨_, _, _, _, _, _, _, rfl, _⟩ := h; rfl)) ⟨_, fun cdv A outer s H E M X0 hr => w_check_table (P := P) (w := w) (base := base) (g_list := (He.free_ok X G (c.t.d.fact 41 (f := .free "list") rfl))) (g_range := (He.free_ok X G (c.t.d.fact 44 (f := .free "range") rfl))) (g_len := (He.free_ok X G (c.t.d.fact 43 (f := .free "len") rfl))) (c_check_shape := c_check_shape) (c_can_stand := c_can_stand) _ _ cdv A outer s H E M X0 hr, r_check_table⟩
  have c_check_table : CalD P w K mg base 3 "check_table" false sp_check_table := ⟨_, _, ["rows"], ok_check_table, (He.glo_ok X G (c.t.d.fact 4 (f := .glo "check_table") rfl)), D_check_table.kp, D_check_table.bindsN fun _ _ _ _ _ _ us hl => match us, hl with | [_], _ => rfl⟩
  have ok_weight_of : FnOk P w K mg base CX0 1 _ fd_weight_of ["table", "one", "other"] (spD K false sp_weight_of) := okD F_weight_of sc_weight_of [] (by intro ds k R h; first | (rcases h with ⟨_, _, _, rfl, _⟩ | ⟨rfl, _⟩ <;> rfl) | (obtain ⟨rfl, _⟩ := h; rfl) | (obtain ⟨_, rfl, _⟩ := h; rfl) | (obtain ⟨_, _, rfl, _⟩ := h; rfl) | (obtain ⟨_, _, _, rfl, _⟩ := h; rfl) | (obtain ⟨_, _, _, _, rfl, _⟩ := h; rfl) | (obtain ⟨_, _, _, _, _, rfl, _⟩ := h; rfl) | (obtain ⟨_, _, _, _, _, _, rfl, _⟩ := h; rfl) | (obtain ⟨_, _, _, _, _, _, _, rfl, _⟩ := h; rfl)) ⟨_, fun cdv A outer s H E M X0 hr => w_weight_of (P := P) (w := w) (base := base) (g_OWN_WEIGHT := (He.int_ok X G (c.t.d.fact 54 (f := .int "OWN_WEIGHT" (-2)) rfl))) (g_WEIGHTS := gW) _ _ cdv A outer s H E M X0 hr, r_weight_of⟩
  have c_weight_of : CalD P w K mg base 1 "weight_of" false sp_weight_of := ⟨_, _, ["table", "one", "other"], ok_weight_of, (He.glo_ok X G (c.t.d.fact 5 (f := .glo "weight_of") rfl)), D_weight_of.kp, D_weight_of.bindsN fun _ _ _ _ _ _ us hl => match us, hl with | [_, _, _], _ => rfl⟩
  have ok_weights_from : FnOk P w K mg base CX0 2 _ fd_weights_from ["table", "one"] (spD K false sp_weights_from) := okD F_weights_from sc_weights_from [] (by intro ds k R h; first | (rcases h with ⟨_, _, _, rfl, _⟩ | ⟨rfl, _⟩ <;> rfl) | (obtain ⟨rfl, _⟩ := h; rfl) | (obtain ⟨_, rfl, _⟩ := h; rfl) | (obtain ⟨_, _, rfl, _⟩ := h; rfl) | (obtain ⟨_, _, _, rfl, _⟩ := h; rfl) | (obtain ⟨_, _, _, _, rfl, _⟩ := h; rfl) | (obtain ⟨_, _, _, _, _, rfl, _⟩ := h; rfl) | (obtain ⟨_, _, _, _, _, _, rfl, _⟩ := h; rfl) | (obtain ⟨_, _, _, _, _, _, _, rfl, _⟩ := h; rfl)) ⟨_, fun cdv A outer s H E M X0 hr => w_weights_from (P := P) (w := w) (base := base) (g_tuple := (He.free_ok X G (c.t.d.fact 42 (f := .free "tuple") rfl))) (g_range := (He.free_ok X G (c.t.d.fact 44 (f := .free "range") rfl))) (g_len := (He.free_ok X G (c.t.d.fact 43 (f := .free "len") rfl))) (c_weight_of := c_weight_of) _ _ cdv A outer s H E M X0 hr, r_weights_from⟩
  have c_weights_from : CalD P w K mg base 2 "weights_from" false sp_weights_from := ⟨_, _, ["table", "one"], ok_weights_from, (He.glo_ok X G (c.t.d.fact 6 (f := .glo "weights_from") rfl)), D_weights_from.kp, D_weights_from.bindsN fun _ _ _ _ _ _ us hl => match us, hl with | [_, _], _ => rfl⟩
  have c_Bonds : MakD P w K mg base 4 "Bonds" (He.ga K "Bonds") (sp_Bonds (He.ga K "Bonds")) := ⟨_, _, ["self", "rows"], He.mkr_ok (c.t.d.fact 60 (f := .mkr "Bonds") rfl), ok_init F_init (He.free_ok X G (c.t.d.fact 42 (f := .free "tuple") rfl)) (He.free_ok X G (c.t.d.fact 44 (f := .free "range") rfl)) (He.free_ok X G (c.t.d.fact 43 (f := .free "len") rfl)) c_check_table c_weights_from gC gT gV, (He.glo_ok X G (c.t.d.fact 56 (f := .glo "Bonds") rfl)), D_init.bindsN fun _ _ _ _ _ _ us hl => match us, hl with | [_, _], _ => rfl⟩
  have ok__law_stretch : FnOk P w K mg base CX0 1 _ fd__law_stretch ["a", "b", "many"] (spD K false sp__law_stretch) := okD F__law_stretch sc__law_stretch [] (by intro ds k R h; first | (rcases h with ⟨_, _, _, rfl, _⟩ | ⟨rfl, _⟩ <;> rfl) | (obtain ⟨rfl, _⟩ := h; rfl) | (obtain ⟨_, rfl, _⟩ := h; rfl) | (obtain ⟨_, _, rfl, _⟩ := h; rfl) | (obtain ⟨_, _, _, rfl, _⟩ := h; rfl) | (obtain ⟨_, _, _, _, rfl, _⟩ := h; rfl) | (obtain ⟨_, _, _, _, _, rfl, _⟩ := h; rfl) | (obtain ⟨_, _, _, _, _, _, rfl, _⟩ := h; rfl) | (obtain ⟨_, _, _, _, _, _, _, rfl, _⟩ := h; rfl)) ⟨_, fun cdv A outer s H E M X0 hr => w__law_stretch (P := P) (w := w) (base := base) (g_tuple := (He.free_ok X G (c.t.d.fact 42 (f := .free "tuple") rfl))) (g_range := (He.free_ok X G (c.t.d.fact 44 (f := .free "range") rfl))) (g_int := (He.free_ok X G (c.t.d.fact 39 (f := .free "int") rfl))) _ _ cdv A outer s H E M X0 hr, r__law_stretch⟩
  have c__law_stretch : CalD P w K mg base 1 "_law_stretch" false sp__law_stretch := ⟨_, _, ["a", "b", "many"], ok__law_stretch, (He.glo_ok X G (c.t.d.fact 34 (f := .glo "_law_stretch") rfl)), D__law_stretch.kp, D__law_stretch.bindsN fun _ _ _ _ _ _ us hl => match us, hl with | [_, _, _], _ => rfl⟩
  have ok__law_moved : FnOk P w K mg base CX0 2 _ fd__law_moved ["rows", "word", "deed"] (spD K false sp__law_moved) := okD F__law_moved sc__law_moved [] (by intro ds k R h; first | (rcases h with ⟨_, _, _, rfl, _⟩ | ⟨rfl, _⟩ <;> rfl) | (obtain ⟨rfl, _⟩ := h; rfl) | (obtain ⟨_, rfl, _⟩ := h; rfl) | (obtain ⟨_, _, rfl, _⟩ := h; rfl) | (obtain ⟨_, _, _, rfl, _⟩ := h; rfl) | (obtain ⟨_, _, _, _, rfl, _⟩ := h; rfl) | (obtain ⟨_, _, _, _, _, rfl, _⟩ := h; rfl) | (obtain ⟨_, _, _, _, _, _, rfl, _⟩ := h; rfl) | (obtain ⟨_, _, _, _, _, _, _, rfl, _⟩ := h; rfl)) ⟨_, fun cdv A outer s H E M X0 hr => w__law_moved (P := P) (w := w) (base := base) (g_len := (He.free_ok X G (c.t.d.fact 43 (f := .free "len") rfl))) (c__law_stretch := c__law_stretch) _ _ cdv A outer s H E M X0 hr, r__law_moved⟩
  have c__law_moved : CalD P w K mg base 2 "_law_moved" false sp__law_moved := ⟨_, _, ["rows", "word", "deed"], ok__law_moved, (He.glo_ok X G (c.t.d.fact 35 (f := .glo "_law_moved") rfl)), D__law_moved.kp, D__law_moved.bindsN fun _ _ _ _ _ _ us hl => match us, hl with | [_, _, _], _ => rfl⟩
  have ok__law_turned_all : FnOk P w K mg base CX0 3 _ fd__law_turned_all ["rows", "word"] (spD K false sp__law_turned_all) := okD F__law_turned_all sc__law_turned_all [2, 4] (by intro ds k R h; first | (rcases h with ⟨_, _, _, rfl, _⟩ | ⟨rfl, _⟩ <;> rfl) | (obtain ⟨rfl, _⟩ := h; rfl) | (obtain ⟨_, rfl, _⟩ := h; rfl) | (obtain ⟨_, _, rfl, _⟩ := h; rfl) | (obtain ⟨_, _, _, rfl, _⟩ := h; rfl) | (obtain ⟨_, _, _, _, rfl, _⟩ := h; rfl) | (obtain ⟨_, _, _, _, _, rfl, _⟩ := h; rfl) | (obtain ⟨_, _, _, _, _, _, rfl, _⟩ := h; rfl) | (obtain ⟨_, _, _, _, _, _, _, rfl, _⟩ := h; rfl)) ⟨_, fun cdv A outer s H E M X0 hr => w__law_turned_all (P := P) (w := w) (base := base) (g_range := (He.free_ok X G (c.t.d.fact 44 (f := .free "range") rfl))) (g_len := (He.free_ok X G (c.t.d.fact 43 (f := .free "len") rfl))) (g_sorted := (He.free_ok X G (c.t.d.fact 48 (f := .free "sorted") rfl))) (g_list := (He.free_ok X G (c.t.d.fact 41 (f := .free "list") rfl))) (c__law_moved := c__law_moved) _ _ cdv A outer s H E M X0 hr, r__law_turned_all⟩
  have c__law_turned_all : CalD P w K mg base 3 "_law_turned_all" false sp__law_turned_all := ⟨_, _, ["rows", "word"], ok__law_turned_all, (He.glo_ok X G (c.t.d.fact 36 (f := .glo "_law_turned_all") rfl)), D__law_turned_all.kp, D__law_turned_all.bindsN fun _ _ _ _ _ _ us hl => match us, hl with | [_, _], _ => rfl⟩
  have ok__law_row : FnOk P w K mg base CX0 3 _ fd__law_row ["rows", "word"] (spD K false sp__law_row) := okD F__law_row sc__law_row [] (by intro ds k R h; first | (rcases h with ⟨_, _, _, rfl, _⟩ | ⟨rfl, _⟩ <;> rfl) | (obtain ⟨rfl, _⟩ := h; rfl) | (obtain ⟨_, rfl, _⟩ := h; rfl) | (obtain ⟨_, _, rfl, _⟩ := h; rfl) | (obtain ⟨_, _, _, rfl, _⟩ := h; rfl) | (obtain ⟨_, _, _, _, rfl, _⟩ := h; rfl) | (obtain ⟨_, _, _, _, _, rfl, _⟩ := h; rfl) | (obtain ⟨_, _, _, _, _, _, rfl, _⟩ := h; rfl) | (obtain ⟨_, _, _, _, _, _, _, rfl, _⟩ := h; rfl)) ⟨_, fun cdv A outer s H E M X0 hr => w__law_row (P := P) (w := w) (base := base) (g_len := (He.free_ok X G (c.t.d.fact 43 (f := .free "len") rfl))) (c__law_press := c__law_press) _ _ cdv A outer s H E M X0 hr, r__law_row⟩
  have c__law_row : CalD P w K mg base 3 "_law_row" false sp__law_row := ⟨_, _, ["rows", "word"], ok__law_row, (He.glo_ok X G (c.t.d.fact 30 (f := .glo "_law_row") rfl)), D__law_row.kp, D__law_row.bindsN fun _ _ _ _ _ _ us hl => match us, hl with | [_, _], _ => rfl⟩
  have ok__law_below : FnOk P w K mg base CX0 1 _ fd__law_below ["row"] (spD K false sp__law_below) := okD F__law_below sc__law_below [] (by intro ds k R h; first | (rcases h with ⟨_, _, _, rfl, _⟩ | ⟨rfl, _⟩ <;> rfl) | (obtain ⟨rfl, _⟩ := h; rfl) | (obtain ⟨_, rfl, _⟩ := h; rfl) | (obtain ⟨_, _, rfl, _⟩ := h; rfl) | (obtain ⟨_, _, _, rfl, _⟩ := h; rfl) | (obtain ⟨_, _, _, _, rfl, _⟩ := h; rfl) | (obtain ⟨_, _, _, _, _, rfl, _⟩ := h; rfl) | (obtain ⟨_, _, _, _, _, _, rfl, _⟩ := h; rfl) | (obtain ⟨_, _, _, _, _, _, _, rfl, _⟩ := h; rfl)) ⟨_, fun cdv A outer s H E M X0 hr => w__law_below (P := P) (w := w) (base := base) (g_range := (He.free_ok X G (c.t.d.fact 44 (f := .free "range") rfl))) (g_len := (He.free_ok X G (c.t.d.fact 43 (f := .free "len") rfl))) _ _ cdv A outer s H E M X0 hr, r__law_below⟩
  have c__law_below : CalD P w K mg base 1 "_law_below" false sp__law_below := ⟨_, _, ["row"], ok__law_below, (He.glo_ok X G (c.t.d.fact 31 (f := .glo "_law_below") rfl)), D__law_below.kp, D__law_below.bindsN fun _ _ _ _ _ _ us hl => match us, hl with | [_], _ => rfl⟩
  have ok__law_least : FnOk P w K mg base CX0 4 _ fd__law_least ["rows", "word"] (spD K false sp__law_least) := okD F__law_least sc__law_least [2] (by intro ds k R h; first | (rcases h with ⟨_, _, _, rfl, _⟩ | ⟨rfl, _⟩ <;> rfl) | (obtain ⟨rfl, _⟩ := h; rfl) | (obtain ⟨_, rfl, _⟩ := h; rfl) | (obtain ⟨_, _, rfl, _⟩ := h; rfl) | (obtain ⟨_, _, _, rfl, _⟩ := h; rfl) | (obtain ⟨_, _, _, _, rfl, _⟩ := h; rfl) | (obtain ⟨_, _, _, _, _, rfl, _⟩ := h; rfl) | (obtain ⟨_, _, _, _, _, _, rfl, _⟩ := h; rfl) | (obtain ⟨_, _, _, _, _, _, _, rfl, _⟩ := h; rfl)) ⟨_, fun cdv A outer s H E M X0 hr => w__law_least (P := P) (w := w) (base := base) (g_tuple := (He.free_ok X G (c.t.d.fact 42 (f := .free "tuple") rfl))) (c__law_row := c__law_row) (c__law_below := c__law_below) (c__law_press := c__law_press) _ _ cdv A outer s H E M X0 hr, r__law_least⟩
  have c__law_least : CalD P w K mg base 4 "_law_least" false sp__law_least := ⟨_, _, ["rows", "word"], ok__law_least, (He.glo_ok X G (c.t.d.fact 32 (f := .glo "_law_least") rfl)), D__law_least.kp, D__law_least.bindsN fun _ _ _ _ _ _ us hl => match us, hl with | [_, _], _ => rfl⟩
  have ok_is_letter : FnOk P w K mg base CX0 2 _ fd_is_letter ["value", "many"] (spD K false sp_is_letter) := okD F_is_letter sc_is_letter [] (by intro ds k R h; first | (rcases h with ⟨_, _, _, rfl, _⟩ | ⟨rfl, _⟩ <;> rfl) | (obtain ⟨rfl, _⟩ := h; rfl) | (obtain ⟨_, rfl, _⟩ := h; rfl) | (obtain ⟨_, _, rfl, _⟩ := h; rfl) | (obtain ⟨_, _, _, rfl, _⟩ := h; rfl) | (obtain ⟨_, _, _, _, rfl, _⟩ := h; rfl) | (obtain ⟨_, _, _, _, _, rfl, _⟩ := h; rfl) | (obtain ⟨_, _, _, _, _, _, rfl, _⟩ := h; rfl) | (obtain ⟨_, _, _, _, _, _, _, rfl, _⟩ := h; rfl)) ⟨_, fun cdv A outer s H E M X0 hr => w_is_letter (P := P) (w := w) (base := base) (c_is_whole := c_is_whole) _ _ cdv A outer s H E M X0 hr, r_is_letter⟩
  have c_is_letter : CalD P w K mg base 2 "is_letter" false sp_is_letter := ⟨_, _, ["value", "many"], ok_is_letter, (He.glo_ok X G (c.t.d.fact 1 (f := .glo "is_letter") rfl)), D_is_letter.kp, D_is_letter.bindsN fun _ _ _ _ _ _ us hl => match us, hl with | [_, _], _ => rfl⟩
  have ok_as_word : FnOk P w K mg base CX0 3 _ fd_as_word ["value", "many"] (spD K false sp_as_word) := okD F_as_word sc_as_word [] (by intro ds k R h; first | (rcases h with ⟨_, _, _, rfl, _⟩ | ⟨rfl, _⟩ <;> rfl) | (obtain ⟨rfl, _⟩ := h; rfl) | (obtain ⟨_, rfl, _⟩ := h; rfl) | (obtain ⟨_, _, rfl, _⟩ := h; rfl) | (obtain ⟨_, _, _, rfl, _⟩ := h; rfl) | (obtain ⟨_, _, _, _, rfl, _⟩ := h; rfl) | (obtain ⟨_, _, _, _, _, rfl, _⟩ := h; rfl) | (obtain ⟨_, _, _, _, _, _, rfl, _⟩ := h; rfl) | (obtain ⟨_, _, _, _, _, _, _, rfl, _⟩ := h; rfl)) ⟨_, fun cdv A outer s H E M X0 hr => w_as_word (P := P) (w := w) (base := base) (g_isinstance := (He.free_ok X G (c.t.d.fact 38 (f := .free "isinstance") rfl))) (g_list := (He.free_ok X G (c.t.d.fact 41 (f := .free "list") rfl))) (g_tuple := (He.free_ok X G (c.t.d.fact 42 (f := .free "tuple") rfl))) (g_len := (He.free_ok X G (c.t.d.fact 43 (f := .free "len") rfl))) (g_MOST_WORD := (He.int_ok X G (c.t.d.fact 52 (f := .int "MOST_WORD" (60)) rfl))) (g_enumerate := (He.free_ok X G (c.t.d.fact 45 (f := .free "enumerate") rfl))) (c_is_letter := c_is_letter) _ _ cdv A outer s H E M X0 hr, r_as_word⟩
  have c_as_word : CalD P w K mg base 3 "as_word" false sp_as_word := ⟨_, _, ["value", "many"], ok_as_word, (He.glo_ok X G (c.t.d.fact 7 (f := .glo "as_word") rfl)), D_as_word.kp, D_as_word.bindsN fun _ _ _ _ _ _ us hl => match us, hl with | [_, _], _ => rfl⟩
  have ok_check_led : FnOk P w K mg base CX0 1 _ fd_check_led ["letters"] (spD K false sp_check_led) := okD F_check_led sc_check_led [] (by intro ds k R h; first | (rcases h with ⟨_, _, _, rfl, _⟩ | ⟨rfl, _⟩ <;> rfl) | (obtain ⟨rfl, _⟩ := h; rfl) | (obtain ⟨_, rfl, _⟩ := h; rfl) | (obtain ⟨_, _, rfl, _⟩ := h; rfl) | (obtain ⟨_, _, _, rfl, _⟩ := h; rfl) | (obtain ⟨_, _, _, _, rfl, _⟩ := h; rfl) | (obtain ⟨_, _, _, _, _, rfl, _⟩ := h; rfl) | (obtain ⟨_, _, _, _, _, _, rfl, _⟩ := h; rfl) | (obtain ⟨_, _, _, _, _, _, _, rfl, _⟩ := h; rfl)) ⟨_, fun cdv A outer s H E M X0 hr => w_check_led (P := P) (w := w) (base := base) (g_len := (He.free_ok X G (c.t.d.fact 43 (f := .free "len") rfl))) (g_MOST_LED := (He.int_ok X G (c.t.d.fact 55 (f := .int "MOST_LED" (16)) rfl))) _ _ cdv A outer s H E M X0 hr, r_check_led⟩
  have c_check_led : CalD P w K mg base 1 "check_led" false sp_check_led := ⟨_, _, ["letters"], ok_check_led, (He.glo_ok X G (c.t.d.fact 15 (f := .glo "check_led") rfl)), D_check_led.kp, D_check_led.bindsN fun _ _ _ _ _ _ us hl => match us, hl with | [_], _ => rfl⟩
  have c_len_Bonds : LenD P w K mg base 1 (He.ga K "Bonds") (sp_len_Bonds (He.ga K "Bonds")) := ⟨_, _, ["self"], He.meth_ok (c.t.d.fact 61 (f := .meth "Bonds" "__len__") rfl), ok_len F_len (He.free_ok X G (c.t.d.fact 43 (f := .free "len") rfl)) gC gT, D_len.bindsN fun _ _ _ _ _ _ us hl => match us, hl with | [_], _ => rfl⟩
  have ok_first_row : FnOk P w K mg base CX0 3 _ fd_first_row ["bonds"] (spD K false (sp_first_row (He.ga K "Bonds"))) := okD F_first_row sc_first_row [] (by intro ds k R h; first | (rcases h with ⟨_, _, _, rfl, _⟩ | ⟨rfl, _⟩ <;> rfl) | (obtain ⟨rfl, _⟩ := h; rfl) | (obtain ⟨_, rfl, _⟩ := h; rfl) | (obtain ⟨_, _, rfl, _⟩ := h; rfl) | (obtain ⟨_, _, _, rfl, _⟩ := h; rfl) | (obtain ⟨_, _, _, _, rfl, _⟩ := h; rfl) | (obtain ⟨_, _, _, _, _, rfl, _⟩ := h; rfl) | (obtain ⟨_, _, _, _, _, _, rfl, _⟩ := h; rfl) | (obtain ⟨_, _, _, _, _, _, _, rfl, _⟩ := h; rfl)) ⟨_, fun cdv A outer s H E M X0 hr => w_first_row (BC := He.ga K "Bonds") (P := P) (w := w) (base := base) (g_len := (He.free_ok X G (c.t.d.fact 43 (f := .free "len") rfl))) (c_len_Bonds := c_len_Bonds) _ _ cdv A outer s H E M X0 hr, r_first_row (He.ga K "Bonds")⟩
  have c_first_row : CalD P w K mg base 3 "first_row" false (sp_first_row (He.ga K "Bonds")) := ⟨_, _, ["bonds"], ok_first_row, (He.glo_ok X G (c.t.d.fact 8 (f := .glo "first_row") rfl)), D_first_row.kp, D_first_row.bindsN fun _ _ _ _ _ _ us hl => match us, hl with | [_], _ => rfl⟩
  have ok_pressed : FnOk P w K mg base CX0 1 _ fd_pressed ["bonds", "row", "letter"] (spD K false (sp_pressed (He.ga K "Bonds"))) := okD F_pressed sc_pressed [] (by intro ds k R h; first | (rcases h with ⟨_, _, _, rfl, _⟩ | ⟨rfl, _⟩ <;> rfl) | (obtain ⟨rfl, _⟩ := h; rfl) | (obtain ⟨_, rfl, _⟩ := h; rfl) | (obtain ⟨_, _, rfl, _⟩ := h; rfl) | (obtain ⟨_, _, _, rfl, _⟩ := h; rfl) | (obtain ⟨_, _, _, _, rfl, _⟩ := h; rfl) | (obtain ⟨_, _, _, _, _, rfl, _⟩ := h; rfl) | (obtain ⟨_, _, _, _, _, _, rfl, _⟩ := h; rfl) | (obtain ⟨_, _, _, _, _, _, _, rfl, _⟩ := h; rfl)) ⟨_, fun cdv A outer s H E M X0 hr => w_pressed (BC := He.ga K "Bonds") (P := P) (w := w) (base := base) (g_tuple := (He.free_ok X G (c.t.d.fact 42 (f := .free "tuple") rfl))) (g_zip := (He.free_ok X G (c.t.d.fact 46 (f := .free "zip") rfl))) (g_Bonds := gC) (g_Bonds_weights := gV) _ _ cdv A outer s H E M X0 hr, r_pressed (He.ga K "Bonds")⟩
  have c_pressed : CalD P w K mg base 1 "pressed" false (sp_pressed (He.ga K "Bonds")) := ⟨_, _, ["bonds", "row", "letter"], ok_pressed, (He.glo_ok X G (c.t.d.fact 9 (f := .glo "pressed") rfl)), D_pressed.kp, D_pressed.bindsN fun _ _ _ _ _ _ us hl => match us, hl with | [_, _, _], _ => rfl⟩
  have ok_row_behind : FnOk P w K mg base CX0 4 _ fd_row_behind ["bonds", "letters"] (spD K false (sp_row_behind (He.ga K "Bonds"))) := okD F_row_behind sc_row_behind [] (by intro ds k R h; first | (rcases h with ⟨_, _, _, rfl, _⟩ | ⟨rfl, _⟩ <;> rfl) | (obtain ⟨rfl, _⟩ := h; rfl) | (obtain ⟨_, rfl, _⟩ := h; rfl) | (obtain ⟨_, _, rfl, _⟩ := h; rfl) | (obtain ⟨_, _, _, rfl, _⟩ := h; rfl) | (obtain ⟨_, _, _, _, rfl, _⟩ := h; rfl) | (obtain ⟨_, _, _, _, _, rfl, _⟩ := h; rfl) | (obtain ⟨_, _, _, _, _, _, rfl, _⟩ := h; rfl) | (obtain ⟨_, _, _, _, _, _, _, rfl, _⟩ := h; rfl)) ⟨_, fun cdv A outer s H E M X0 hr => w_row_behind (BC := He.ga K "Bonds") (P := P) (w := w) (base := base) (c_first_row := c_first_row) (c_pressed := c_pressed) _ _ cdv A outer s H E M X0 hr, r_row_behind (He.ga K "Bonds")⟩
  have c_row_behind : CalD P w K mg base 4 "row_behind" false (sp_row_behind (He.ga K "Bonds")) := ⟨_, _, ["bonds", "letters"], ok_row_behind, (He.glo_ok X G (c.t.d.fact 10 (f := .glo "row_behind") rfl)), D_row_behind.kp, D_row_behind.bindsN fun _ _ _ _ _ _ us hl => match us, hl with | [_, _], _ => rfl⟩
  have ok_row_to_spell : FnOk P w K mg base CX0 5 _ fd_row_to_spell ["bonds", "word"] (spD K false (sp_row_to_spell (He.ga K "Bonds"))) := okD F_row_to_spell sc_row_to_spell [] (by intro ds k R h; first | (rcases h with ⟨_, _, _, rfl, _⟩ | ⟨rfl, _⟩ <;> rfl) | (obtain ⟨rfl, _⟩ := h; rfl) | (obtain ⟨_, rfl, _⟩ := h; rfl) | (obtain ⟨_, _, rfl, _⟩ := h; rfl) | (obtain ⟨_, _, _, rfl, _⟩ := h; rfl) | (obtain ⟨_, _, _, _, rfl, _⟩ := h; rfl) | (obtain ⟨_, _, _, _, _, rfl, _⟩ := h; rfl) | (obtain ⟨_, _, _, _, _, _, rfl, _⟩ := h; rfl) | (obtain ⟨_, _, _, _, _, _, _, rfl, _⟩ := h; rfl)) ⟨_, fun cdv A outer s H E M X0 hr => w_row_to_spell (BC := He.ga K "Bonds") (P := P) (w := w) (base := base) (g_len := (He.free_ok X G (c.t.d.fact 43 (f := .free "len") rfl))) (c_as_word := c_as_word) (c_check_led := c_check_led) (c_row_behind := c_row_behind) (c_len_Bonds := c_len_Bonds) _ _ cdv A outer s H E M X0 hr, r_row_to_spell (He.ga K "Bonds")⟩
  have c_row_to_spell : CalD P w K mg base 5 "row_to_spell" false (sp_row_to_spell (He.ga K "Bonds")) := ⟨_, _, ["bonds", "word"], ok_row_to_spell, (He.glo_ok X G (c.t.d.fact 17 (f := .glo "row_to_spell") rfl)), D_row_to_spell.kp, D_row_to_spell.bindsN fun _ _ _ _ _ _ us hl => match us, hl with | [_, _], _ => rfl⟩
  have ok_fallen : FnOk P w K mg base CX0 1 _ fd_fallen ["row"] (spD K false sp_fallen) := okD F_fallen sc_fallen [] (by intro ds k R h; first | (rcases h with ⟨_, _, _, rfl, _⟩ | ⟨rfl, _⟩ <;> rfl) | (obtain ⟨rfl, _⟩ := h; rfl) | (obtain ⟨_, rfl, _⟩ := h; rfl) | (obtain ⟨_, _, rfl, _⟩ := h; rfl) | (obtain ⟨_, _, _, rfl, _⟩ := h; rfl) | (obtain ⟨_, _, _, _, rfl, _⟩ := h; rfl) | (obtain ⟨_, _, _, _, _, rfl, _⟩ := h; rfl) | (obtain ⟨_, _, _, _, _, _, rfl, _⟩ := h; rfl) | (obtain ⟨_, _, _, _, _, _, _, rfl, _⟩ := h; rfl)) ⟨_, fun cdv A outer s H E M X0 hr => w_fallen (P := P) (w := w) (base := base) (g_tuple := (He.free_ok X G (c.t.d.fact 42 (f := .free "tuple") rfl))) (g_enumerate := (He.free_ok X G (c.t.d.fact 45 (f := .free "enumerate") rfl))) _ _ cdv A outer s H E M X0 hr, r_fallen⟩
  have c_fallen : CalD P w K mg base 1 "fallen" false sp_fallen := ⟨_, _, ["row"], ok_fallen, (He.glo_ok X G (c.t.d.fact 11 (f := .glo "fallen") rfl)), D_fallen.kp, D_fallen.bindsN fun _ _ _ _ _ _ us hl => match us, hl with | [_], _ => rfl⟩
  have ok_counted : ∀ n : Nat, FnOk P w K mg base CX0 (6 + n) (He.fAd K ("counted", none)) fd_counted ["bonds", "row", "known"] (spDK K (sp_countedN n (He.ga K "Bonds"))) := by
    intro n
    induction n with
    | zero => exact countedN_zero
    | succ n ih =>
      have c_counted : CalDK P w K mg base (6 + n) "counted" (sp_countedN n (He.ga K "Bonds")) := ⟨_, _, ["bonds", "row", "known"], ih, (He.glo_ok X G (c.t.d.fact 18 (f := .glo "counted") rfl)), D_counted.kp, D_counted.bindsN fun _ _ _ _ _ _ us hl => match us, hl with | [_, _, _], _ => rfl⟩
      exact okDK F_counted sc_counted [] (by intro N Z ds k R h; first | (obtain ⟨_, _, rfl, _⟩ := h; rfl) | (obtain ⟨_, rfl, _⟩ := h; rfl) | (obtain ⟨_, _, _, rfl, _⟩ := h; rfl)) ⟨_, fun cdv A outer s H E c0 hc ho hr => w_counted (BC := He.ga K "Bonds") (P := P) (w := w) (base := base) (g_sum := (He.free_ok X G (c.t.d.fact 47 (f := .free "sum") rfl))) (c_fallen := c_fallen) (c_pressed := c_pressed) (c_counted := c_counted) _ _ cdv A outer s H E hc ho hr, r_countedN n (He.ga K "Bonds")⟩
  have c_counted : CalDK P w K mg base 26 "counted" (sp_counted (He.ga K "Bonds")) := ⟨_, _, ["bonds", "row", "known"], ok_counted 20, (He.glo_ok X G (c.t.d.fact 18 (f := .glo "counted") rfl)), D_counted.kp, D_counted.bindsN fun _ _ _ _ _ _ us hl => match us, hl with | [_, _, _], _ => rfl⟩
  have ok_count_shortest : FnOk P w K mg base CX0 27 _ fd_count_shortest ["bonds", "word"] (spD K false (sp_count_shortestP (He.ga K "Bonds"))) := okD F_count_shortest sc_count_shortest [] (by intro ds k R h; first | (rcases h with ⟨_, _, _, rfl, _⟩ | ⟨rfl, _⟩ <;> rfl) | (obtain ⟨rfl, _⟩ := h; rfl) | (obtain ⟨_, rfl, _⟩ := h; rfl) | (obtain ⟨_, _, rfl, _⟩ := h; rfl) | (obtain ⟨_, _, _, rfl, _⟩ := h; rfl) | (obtain ⟨_, _, _, _, rfl, _⟩ := h; rfl) | (obtain ⟨_, _, _, _, _, rfl, _⟩ := h; rfl) | (obtain ⟨_, _, _, _, _, _, rfl, _⟩ := h; rfl) | (obtain ⟨_, _, _, _, _, _, _, rfl, _⟩ := h; rfl)) ⟨_, fun cdv A outer s H E M X0 hr => w_count_shortest (BC := He.ga K "Bonds") (P := P) (w := w) (base := base) (c_row_to_spell := c_row_to_spell) (c_counted := c_counted) _ _ cdv A outer s H E M X0 hr, r_count_shortestP (He.ga K "Bonds")⟩
  have c_count_shortest : CalD P w K mg base 27 "count_shortest" false (sp_count_shortestP (He.ga K "Bonds")) := ⟨_, _, ["bonds", "word"], ok_count_shortest, (He.glo_ok X G (c.t.d.fact 19 (f := .glo "count_shortest") rfl)), D_count_shortest.kp, D_count_shortest.bindsN fun _ _ _ _ _ _ us hl => match us, hl with | [_, _], _ => rfl⟩
  have ok_word_at : FnOk P w K mg base CX0 27 _ fd_word_at ["bonds", "word", "number"] (spD K false (sp_word_at (He.ga K "Bonds"))) := okDZ F_word_at sc_word_at [] (by intro ds k R h; first | (obtain ⟨_, rfl, _⟩ := h; rfl) | (obtain ⟨_, _, rfl, _⟩ := h; rfl) | (obtain ⟨_, _, _, rfl, _⟩ := h; rfl) | (obtain ⟨_, _, _, _, rfl, _⟩ := h; rfl) | (obtain ⟨_, _, _, _, _, rfl, _⟩ := h; rfl)) ⟨_, fun cdv A outer s H E c0 hc ho hM hr => w_word_at (BC := He.ga K "Bonds") (P := P) (w := w) (base := base) (c_is_whole := c_is_whole) (c_counted := c_counted) (c_fallen := c_fallen) (c_pressed := c_pressed) (c_row_to_spell := c_row_to_spell) _ _ cdv A outer s H E hc ho hM hr, r_word_at (He.ga K "Bonds")⟩
  have c_word_at : CalD P w K mg base 27 "word_at" false (sp_word_at (He.ga K "Bonds")) := ⟨_, _, ["bonds", "word", "number"], ok_word_at, (He.glo_ok X G (c.t.d.fact 21 (f := .glo "word_at") rfl)), D_word_at.kp, D_word_at.bindsN fun _ _ _ _ _ _ us hl => match us, hl with | [_, _, _], _ => rfl⟩
  have ok_way_down : FnOk P w K mg base CX0 2 _ fd_way_down ["bonds", "row"] (spD K false (sp_way_down (He.ga K "Bonds"))) := okD F_way_down sc_way_down [2] (by intro ds k R h; first | (rcases h with ⟨_, _, _, rfl, _⟩ | ⟨rfl, _⟩ <;> rfl) | (obtain ⟨rfl, _⟩ := h; rfl) | (obtain ⟨_, rfl, _⟩ := h; rfl) | (obtain ⟨_, _, rfl, _⟩ := h; rfl) | (obtain ⟨_, _, _, rfl, _⟩ := h; rfl) | (obtain ⟨_, _, _, _, rfl, _⟩ := h; rfl) | (obtain ⟨_, _, _, _, _, rfl, _⟩ := h; rfl) | (obtain ⟨_, _, _, _, _, _, rfl, _⟩ := h; rfl) | (obtain ⟨_, _, _, _, _, _, _, rfl, _⟩ := h; rfl)) ⟨_, fun cdv A outer s H E M X0 hr => w_way_down (BC := He.ga K "Bonds") (P := P) (w := w) (base := base) (g_len := (He.free_ok X G (c.t.d.fact 43 (f := .free "len") rfl))) (g_MOST_WORD := (He.int_ok X G (c.t.d.fact 52 (f := .int "MOST_WORD" (60)) rfl))) (c_fallen := c_fallen) (c_pressed := c_pressed) _ _ cdv A outer s H E M X0 hr, r_way_down (He.ga K "Bonds")⟩
  have c_way_down : CalD P w K mg base 2 "way_down" false (sp_way_down (He.ga K "Bonds")) := ⟨_, _, ["bonds", "row"], ok_way_down, (He.glo_ok X G (c.t.d.fact 12 (f := .glo "way_down") rfl)), D_way_down.kp, D_way_down.bindsN fun _ _ _ _ _ _ us hl => match us, hl with | [_, _], _ => rfl⟩
  have ok_row_of : FnOk P w K mg base CX0 5 _ fd_row_of ["bonds", "word"] (spD K false (sp_row_of (He.ga K "Bonds"))) := okD F_row_of sc_row_of [] (by intro ds k R h; first | (rcases h with ⟨_, _, _, rfl, _⟩ | ⟨rfl, _⟩ <;> rfl) | (obtain ⟨rfl, _⟩ := h; rfl) | (obtain ⟨_, rfl, _⟩ := h; rfl) | (obtain ⟨_, _, rfl, _⟩ := h; rfl) | (obtain ⟨_, _, _, rfl, _⟩ := h; rfl) | (obtain ⟨_, _, _, _, rfl, _⟩ := h; rfl) | (obtain ⟨_, _, _, _, _, rfl, _⟩ := h; rfl) | (obtain ⟨_, _, _, _, _, _, rfl, _⟩ := h; rfl) | (obtain ⟨_, _, _, _, _, _, _, rfl, _⟩ := h; rfl)) ⟨_, fun cdv A outer s H E M X0 hr => w_row_of (BC := He.ga K "Bonds") (P := P) (w := w) (base := base) (g_len := (He.free_ok X G (c.t.d.fact 43 (f := .free "len") rfl))) (c_row_behind := c_row_behind) (c_as_word := c_as_word) (c_len_Bonds := c_len_Bonds) _ _ cdv A outer s H E M X0 hr, r_row_of (He.ga K "Bonds")⟩
  have c_row_of : CalD P w K mg base 5 "row_of" false (sp_row_of (He.ga K "Bonds")) := ⟨_, _, ["bonds", "word"], ok_row_of, (He.glo_ok X G (c.t.d.fact 13 (f := .glo "row_of") rfl)), D_row_of.kp, D_row_of.bindsN fun _ _ _ _ _ _ us hl => match us, hl with | [_, _], _ => rfl⟩
  have ok_length : FnOk P w K mg base CX0 6 _ fd_length ["bonds", "word"] (spD K false (sp_length (He.ga K "Bonds"))) := okD F_length sc_length [] (by intro ds k R h; first | (rcases h with ⟨_, _, _, rfl, _⟩ | ⟨rfl, _⟩ <;> rfl) | (obtain ⟨rfl, _⟩ := h; rfl) | (obtain ⟨_, rfl, _⟩ := h; rfl) | (obtain ⟨_, _, rfl, _⟩ := h; rfl) | (obtain ⟨_, _, _, rfl, _⟩ := h; rfl) | (obtain ⟨_, _, _, _, rfl, _⟩ := h; rfl) | (obtain ⟨_, _, _, _, _, rfl, _⟩ := h; rfl) | (obtain ⟨_, _, _, _, _, _, rfl, _⟩ := h; rfl) | (obtain ⟨_, _, _, _, _, _, _, rfl, _⟩ := h; rfl)) ⟨_, fun cdv A outer s H E M X0 hr => w_length (BC := He.ga K "Bonds") (P := P) (w := w) (base := base) (g_len := (He.free_ok X G (c.t.d.fact 43 (f := .free "len") rfl))) (c_way_down := c_way_down) (c_row_of := c_row_of) _ _ cdv A outer s H E M X0 hr, r_length (He.ga K "Bonds")⟩
  have c_length : CalD P w K mg base 6 "length" false (sp_length (He.ga K "Bonds")) := ⟨_, _, ["bonds", "word"], ok_length, (He.glo_ok X G (c.t.d.fact 14 (f := .glo "length") rfl)), D_length.kp, D_length.bindsN fun _ _ _ _ _ _ us hl => match us, hl with | [_, _], _ => rfl⟩
  have ok_is_shortest : FnOk P w K mg base CX0 7 _ fd_is_shortest ["bonds", "word"] (spD K false (sp_is_shortest (He.ga K "Bonds"))) := okD F_is_shortest sc_is_shortest [] (by intro ds k R h; first | (rcases h with ⟨_, _, _, rfl, _⟩ | ⟨rfl, _⟩ <;> rfl) | (obtain ⟨rfl, _⟩ := h; rfl) | (obtain ⟨_, rfl, _⟩ := h; rfl) | (obtain ⟨_, _, rfl, _⟩ := h; rfl) | (obtain ⟨_, _, _, rfl, _⟩ := h; rfl) | (obtain ⟨_, _, _, _, rfl, _⟩ := h; rfl) | (obtain ⟨_, _, _, _, _, rfl, _⟩ := h; rfl) | (obtain ⟨_, _, _, _, _, _, rfl, _⟩ := h; rfl) | (obtain ⟨_, _, _, _, _, _, _, rfl, _⟩ := h; rfl)) ⟨_, fun cdv A outer s H E M X0 hr => w_is_shortest (BC := He.ga K "Bonds") (P := P) (w := w) (base := base) (g_len := (He.free_ok X G (c.t.d.fact 43 (f := .free "len") rfl))) (c_length := c_length) _ _ cdv A outer s H E M X0 hr, r_is_shortest (He.ga K "Bonds")⟩
  have c_is_shortest : CalD P w K mg base 7 "is_shortest" false (sp_is_shortest (He.ga K "Bonds")) := ⟨_, _, ["bonds", "word"], ok_is_shortest, (He.glo_ok X G (c.t.d.fact 16 (f := .glo "is_shortest") rfl)), D_is_shortest.kp, D_is_shortest.bindsN fun _ _ _ _ _ _ us hl => match us, hl with | [_, _], _ => rfl⟩
  have ok_word_number : FnOk P w K mg base CX0 27 _ fd_word_number ["bonds", "word"] (spD K false (sp_word_numberP (He.ga K "Bonds"))) := okDZ F_word_number sc_word_number [] (by intro ds k R h; first | (obtain ⟨_, rfl, _⟩ := h; rfl) | (obtain ⟨_, _, rfl, _⟩ := h; rfl) | (obtain ⟨_, _, _, rfl, _⟩ := h; rfl) | (obtain ⟨_, _, _, _, rfl, _⟩ := h; rfl) | (obtain ⟨_, _, _, _, _, rfl, _⟩ := h; rfl)) ⟨_, fun cdv A outer s H E c0 hc ho hM hr => w_word_number (BC := He.ga K "Bonds") (P := P) (w := w) (base := base) (g_sum := (He.free_ok X G (c.t.d.fact 47 (f := .free "sum") rfl))) (c_fallen := c_fallen) (c_pressed := c_pressed) (c_counted := c_counted) (c_row_to_spell := c_row_to_spell) (c_is_shortest := c_is_shortest) _ _ cdv A outer s H E hc ho hM hr, r_word_numberP (He.ga K "Bonds")⟩
  have c_word_number : CalD P w K mg base 27 "word_number" false (sp_word_numberP (He.ga K "Bonds")) := ⟨_, _, ["bonds", "word"], ok_word_number, (He.glo_ok X G (c.t.d.fact 22 (f := .glo "word_number") rfl)), D_word_number.kp, D_word_number.bindsN fun _ _ _ _ _ _ us hl => match us, hl with | [_, _], _ => rfl⟩
  have okG_shortest_words : GFn P w K mg base 6 _ fd_shortest_words ["bonds", "word"] (spDG K (spG_shortest_words (He.ga K "Bonds"))) := okDGb F_shortest_words sg_shortest_words [2] (by intro ds R E h; first | (obtain ⟨_, _, rfl, _⟩ := h; rfl) | (obtain ⟨_, _, _, rfl, _⟩ := h; rfl)) ⟨tG_shortest_words (He.ga K "Bonds"), fun cdv A outer s H E pn X0 Ex hr tk => wG_shortest_words (BC := He.ga K "Bonds") (P := P) (w := w) (base := base) (g_reversed := (He.free_ok X G (c.t.d.fact 50 (f := .free "reversed") rfl))) (c_row_to_spell := c_row_to_spell) (c_fallen := c_fallen) (c_pressed := c_pressed) _ cdv A outer s H E pn X0 Ex hr tk, fun X ds R E h => rG_shortest_words (He.ga K "Bonds") X ds R E h⟩
  have cG_shortest_words : CalGen P w K mg base 6 "shortest_words" (spG_shortest_words (He.ga K "Bonds")) := ⟨_, _, ["bonds", "word"], okG_shortest_words, (He.glo_ok X G (c.t.d.fact 20 (f := .glo "shortest_words") rfl)), D_shortest_words.kp, D_shortest_words.bindsN fun _ _ _ _ _ _ us hl => match us, hl with | [_, _], _ => rfl⟩
  have okZ_shortest_words : GFnZ P w K mg base 6 _ fd_shortest_words ["bonds", "word"] (spDZ K (spZ_shortest_words (He.ga K "Bonds"))) := okDZb F_shortest_words sg_shortest_words [2] (by intro ds DA R h; obtain ⟨_, _, _, _, rfl, _⟩ := h; rfl) ⟨tZ_shortest_words (He.ga K "Bonds"), fun cdv A outer s H E pn X0 hr => wZ_shortest_words (BC := He.ga K "Bonds") (P := P) (w := w) (base := base) (g_reversed := (He.free_ok X G (c.t.d.fact 50 (f := .free "reversed") rfl))) (c_row_to_spell := c_row_to_spell) (c_fallen := c_fallen) (c_pressed := c_pressed) _ cdv A outer s H E pn X0 hr, fun X ds DA R h => rZ_shortest_words (He.ga K "Bonds") X ds DA R h⟩
  have cZ_shortest_words : CalZ P w K mg base 6 "shortest_words" (spZ_shortest_words (He.ga K "Bonds")) := ⟨_, _, ["bonds", "word"], okZ_shortest_words, (He.glo_ok X G (c.t.d.fact 20 (f := .glo "shortest_words") rfl)), D_shortest_words.kp, D_shortest_words.bindsN fun _ _ _ _ _ _ us hl => match us, hl with | [_, _], _ => rfl⟩
  exact ok_law (T := TTof K lamL) (g_repr := (He.free_ok X G (c.t.d.fact 49 (f := .free "repr") rfl))) (g_list := (He.free_ok X G (c.t.d.fact 41 (f := .free "list") rfl))) (g_len := (He.free_ok X G (c.t.d.fact 43 (f := .free "len") rfl))) (g_range := (He.free_ok X G (c.t.d.fact 44 (f := .free "range") rfl))) (c__law_table := c__law_table) (c__law_word := c__law_word) (c_Bonds := c_Bonds) (c__law_turned_all := c__law_turned_all) (c__law_least := c__law_least) (c_count_shortest := c_count_shortest) (c__law_draw := c__law_draw) (c_word_at := c_word_at) (c_word_number := c_word_number) (cG_shortest_words := cG_shortest_words) (cZ_shortest_words := cZ_shortest_words) F_law ok__law_begun (He.glo_ok X G (c.t.d.fact 26 (f := .glo "_law_begun") rfl)) D__law_begun.kp (D__law_begun.bindsN fun _ _ _ _ _ _ us hl => match us, hl with | [_], _ => rfl)
theorem ob_eq (s : PySem.W.SharedT) : ob s = hk.obs s.abs := He.obsX_eq (HandSHeadRun.getT_eq s)
end BW
set_option maxHeartbeats 0
namespace BW
open PySem PySem.Spec PyProof.Rows L2
theorem run (w : World) : HandSHeadRun.RunEq R (PySem.W.view R.prog [59]) hk ob 6000 names w := PySem.W.byRow2 "special-get-raises" (P := PR) run0 run1 w
end BW
open PySem PySem.W PyProof.Rows
set_option maxRecDepth 100000 in
set_option maxHeartbeats 0 in
theorem PySem.Challenge.cw_bondwords_k18_whole_shortest_words_liste_holds : PySem.Challenge.rw_bondwords_k18_whole_shortest_words_liste.Holds := by
  w_on; o_law
  refine HandSHeadRun.head_any (r := OpenLaw.row PySem.Challenge.rw_bondwords_k18_whole_shortest_words_liste) (q := view (OpenLaw.row PySem.Challenge.rw_bondwords_k18_whole_shortest_words_liste).prog [59]) (H := BW.hk) (ob := BW.ob) (M := 6000) (loose := BW.names) (d := HandSHeadRun.topDef (OpenLaw.row PySem.Challenge.rw_bondwords_k18_whole_shortest_words_liste).prog 59) (kwd := []) BW.ob_eq
    (by kernel_rfl) (fun s => by kernel_rfl) BW.run (by kernel_rfl) (by kernel_rfl) (by kernel_rfl) (by rfl) (by first | assumption | decide +kernel) (by decide +kernel) ⟨rfl, rfl, rfl, rfl, rfl, by decide +kernel⟩ ?hw ?hc
  case hw => w_witness2
  case hc =>
    refine L2G.walkGT (l := PySem.Challenge.rw_bondwords_k18_whole_shortest_words_liste) (n := 63) (k := 28) (x := "script") rfl (by decide) (by kernel_rfl) ⟨rfl, by decide, by decide⟩ ?F
    intro w mz fz hz ⟨K, kin, says⟩ ns0 at0
    have atL : mz ("law" : PySem.Str) = some (.ref fz) := by
      rw [show ("law" : PySem.Str) = (HandSHeadRun.topDef (OpenLaw.row PySem.Challenge.rw_bondwords_k18_whole_shortest_words_liste).prog 59).name from by kernel_rfl]
      exact at0
    obtain ⟨fd, hb, hF⟩ := BW.facts (P := (PySem.Challenge.rw_bondwords_k18_whole_shortest_words_liste).prog) (w := w) kin ns0 atL says
    refine ⟨K, fd, BW.spLaw K (DL.TTof K BW.lamL), BW.tfL.map (He.cT K), kin, fun p hp => ?_, fun p hp => ?_, fun p hp => ?_, hb, fun H a ns hl tb hS => ⟨a, ns, rfl, hS, hl, fun p hp => ?_, fun _ => rfl⟩, fun base b1 b2 b3 => hF base b1 b2 fun n hn => b3 _ (List.mem_map.mpr ⟨n, hn, rfl⟩)⟩
    · obtain ⟨n, hn, rfl⟩ := List.mem_map.mp hp
      exact says.empty _ hn
    · obtain ⟨n, hn, rfl⟩ := List.mem_map.mp hp
      exact says.out _ hn
    · obtain ⟨n, hn, rfl⟩ := List.mem_map.mp hp
      exact PySem.W.codeHd_of_K kin (says.hd _ hn)
    · obtain ⟨x, hx, rfl⟩ := List.mem_map.mp hp
      exact tb _ (List.mem_map.mpr ⟨x.1, (show x.1 ∈ BW.lamL.map (·.1) from List.mem_map.mpr ⟨x, hx, rfl⟩), rfl⟩)

