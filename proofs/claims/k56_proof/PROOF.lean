import PyProof.Rows.All
import Wide.All
import OpenK.AllK
import Wide.FinOn
import HandS.ForMost
import HandS.TupAny
import HandS.TupMul
import HandS.Conv
import HandS.Wide
import HandS.Style
import HandS.HeadHook1
import HandS.Lambda
import HandS.IsInst
import HandS.Zip
import HandS.Dict
import KE.GoesEnum
import OpenK.KOps
import HandS.List
import HandS.Ends
import HandS.HeadEnd
import HandS.More
import HandS.HeadHook3
import HandS.NoneIn
import HandS.Exc
import HandS.ExcOwn
import HandS.CallSlots
import HandS.WordsExc
import KE.KExcInit
import KE.KTryMore
import KE.KExcIs
import HandS.ExcIs
import HandS.ExcField
import HandS.EndTab
import HandS.HeadHook4
import HandS.Star
import HandS.Small
import HandS.Iter
import HandS.OwnEq
import PyProof.InstNe
import HandS.ExcValue
import KE.SortData
import KE.SortKeyHeap
import KE.KSortKey
import HandS.TupSets
import HandS.SetBool
import HandS.RevRange
import HandS.Text
import KE.BitLaws
import PySem.Challenge.RW_bondwords_k56_pieces
import KE.KStateDown
import HandS.Head0
import HandS.Head1
import HandS.Head2
namespace DL
end DL
namespace L2
end L2
namespace PySem
end PySem
namespace L2G
end L2G
section
set_option Elab.async false
set_option linter.all false
set_option maxRecDepth 100000
namespace DL
open PySem L2
open PySem.W (Frag)
def wo (H : Hp) (X : List Addr) : Hp := fun a => if a ∈ X then none else match H a with
  | some (.tbl _) => none
  | o => o
end DL
set_option maxHeartbeats 1000000
set_option maxHeartbeats 1000000
set_option maxHeartbeats 1000000
set_option maxHeartbeats 1000000
set_option autoImplicit false
set_option maxHeartbeats 1000000
set_option maxHeartbeats 2000000
set_option maxHeartbeats 1000000
set_option maxHeartbeats 1000000
set_option maxHeartbeats 1000000
set_option maxHeartbeats 1000000
set_option maxHeartbeats 1000000
set_option maxHeartbeats 1000000
set_option maxHeartbeats 1000000
set_option maxHeartbeats 1000000
set_option maxHeartbeats 1000000
set_option maxHeartbeats 1000000
set_option maxHeartbeats 1000000
set_option maxHeartbeats 1000000
set_option maxHeartbeats 1000000
set_option maxHeartbeats 1000000
set_option maxHeartbeats 1000000
set_option maxHeartbeats 1000000
set_option maxHeartbeats 1000000
set_option maxHeartbeats 1000000
set_option maxHeartbeats 1000000
namespace BW
open PySem L2 DL
open PySem.W (Frag)
def tupIs (K : Frag) (v : Value) (ns : List Int) : Bool := match v with
  | .ref b => (match K.lookup b with
    | some ⟨.type c, _, .seq its _, _⟩ => decide (c = "tuple") && (decide (its.size ≤ sizeLine) && He.relAll (ns.map V.int) its.toList)
    | _ => false)
  | _ => false
def entB (K : Frag) : List DictEntry → List (Int × List Int) → Bool
  | [], [] => true
  | e :: es, (k, ns) :: r => (match e.key with | .int j _ => decide (j = k) && decide (e.hash = hashInt k) | _ => false) && (tupIs K e.val ns && entB K es r)
  | _, _ => false
def kdB (K : Frag) (x : PySem.Str) (kvs : List (Int × List Int)) : Bool := match K.lookup (He.ga K x) with
  | some ⟨.type c, none, .dict es _, sl⟩ => decide (c = "dict") && (sl.isEmpty && (!(He.ga K x == sysModules) && entB K es.toList kvs))
  | _ => false
end BW
set_option maxHeartbeats 1000000
set_option maxHeartbeats 1000000
set_option autoImplicit false
set_option autoImplicit false
set_option maxHeartbeats 1000000
set_option maxHeartbeats 1000000
set_option maxHeartbeats 1000000
set_option maxHeartbeats 1000000
set_option maxHeartbeats 1000000
set_option maxHeartbeats 1000000
set_option maxHeartbeats 1000000
set_option autoImplicit false
set_option maxHeartbeats 1000000
set_option maxHeartbeats 1000000
set_option autoImplicit false
set_option maxHeartbeats 1000000
set_option maxHeartbeats 1000000
set_option maxHeartbeats 1000000
set_option autoImplicit false
set_option maxHeartbeats 1000000
namespace DL
open PySem L2 L2G
open PySem.W (Frag)
def sysB (K : Frag) : Bool := (K.lookup sysModules).isSome
end DL
set_option maxHeartbeats 1000000
set_option maxHeartbeats 1000000
set_option maxHeartbeats 1000000
set_option maxHeartbeats 1000000
set_option maxHeartbeats 1000000
set_option maxHeartbeats 1000000
set_option maxHeartbeats 1000000
set_option maxHeartbeats 1000000
set_option maxHeartbeats 1000000
set_option maxHeartbeats 1000000
set_option maxHeartbeats 1000000
set_option maxHeartbeats 1000000
set_option maxHeartbeats 1000000
set_option autoImplicit false
set_option maxHeartbeats 1000000
set_option autoImplicit false
set_option maxHeartbeats 1000000
set_option autoImplicit false
set_option maxHeartbeats 1000000
set_option autoImplicit false
set_option maxHeartbeats 1000000
set_option autoImplicit false
set_option maxHeartbeats 1000000
set_option maxHeartbeats 1000000
set_option maxHeartbeats 1000000
set_option maxHeartbeats 2000000
set_option maxHeartbeats 2000000
set_option maxHeartbeats 2000000
set_option maxHeartbeats 2000000
set_option maxHeartbeats 2000000
set_option maxHeartbeats 1000000
set_option maxHeartbeats 1000000
set_option maxHeartbeats 1000000
set_option maxHeartbeats 1000000
set_option maxHeartbeats 1000000
set_option maxHeartbeats 1000000
set_option maxHeartbeats 1000000
set_option maxHeartbeats 1000000
set_option maxHeartbeats 1000000
set_option maxHeartbeats 1000000
set_option maxHeartbeats 1000000
set_option maxHeartbeats 1000000
set_option maxHeartbeats 1000000
set_option maxHeartbeats 1600000
set_option maxHeartbeats 1600000
set_option maxHeartbeats 1000000
set_option maxHeartbeats 1000000
set_option maxHeartbeats 1000000
set_option maxHeartbeats 1000000
set_option maxHeartbeats 1000000
set_option maxHeartbeats 1000000
set_option maxHeartbeats 1000000
set_option maxHeartbeats 1000000
set_option maxHeartbeats 1000000
set_option maxHeartbeats 1000000
set_option maxHeartbeats 1000000
set_option maxHeartbeats 1000000
set_option maxHeartbeats 1000000
namespace BW
open PySem L2 DL
def top (i : Nat) : Stmt := PySem.Challenge.pw_bondwords_k56_pieces.main.body.getD i (.Pass ⟨0, 0, 0, 0⟩)
end BW
namespace BW
open PySem L2 DL
def memS (i j : Nat) : Stmt := match top i with
  | .ClassDef _ _ _ body .. => body.getD j (.Pass ⟨0, 0, 0, 0⟩)
  | _ => .Pass ⟨0, 0, 0, 0⟩
end BW
namespace BW
open PySem L2 DL
abbrev s_fewer_first : Stmt := top 24
abbrev lamQ_fewer_first : PySem.Str := (PyProof.Rows.envOfC "fewer_first" (defScope s_fewer_first) 0 0 .none).qual ++ "<lambda>"
end BW
namespace BW
open PySem L2 DL
def frS (g : Addr → Option Obj) (n : Nat) : PySem.W.Frag := He.frT g (sysModules :: He.asD g n)
section
variable {n : Nat} {fa : List He.Fa} {fn : List He.DefD} {ts : List He.Tab} {tf : List He.Defn} {ex : PySem.W.Frag → Bool} {w : World} {h : Heap}
theorem says_any {as : List Addr} (e : ((He.obsT fa fn ts (He.frT h.get? as), ex (He.frT h.get? as) && He.tabsB h.get? tf (He.frT h.get? as)) : He.AlX) = He.valX fn ts w) : He.SaysX fa fn ts tf ex w h (He.frT h.get? as) := by
  have i1 := (Prod.mk.inj e).1
  have i2 := Bool.and_eq_true_iff.mp (Prod.mk.inj e).2
  have tab : ∀ p ∈ tf, PySem.W.codeHdIn (He.frT h.get? as) (He.cT (He.frT h.get? as) p).1 (He.cT (He.frT h.get? as) p).2 = true ∧ ∃ o, h.get? (He.cT (He.frT h.get? as) p).2 = some o ∧ He.emptyTab o = true := fun p hp => by
    have j := Bool.and_eq_true_iff.mp (List.all_eq_true.mp i2.2 p hp)
    refine ⟨j.1, ?_⟩
    have j2 := j.2
    revert j2
    cases h.get? (He.cT (He.frT h.get? as) p).2 with
    | none => exact fun z => (Bool.false_ne_true z).elim
    | some o => exact fun z => ⟨o, rfl, z⟩
  refine { t := i1, more := i2.1, hd := fun p hp => (tab p hp).1, out := fun p hp => ?_, empty := fun p hp => ?_ }
  · have ⟨_, o, q, z⟩ := tab p hp
    exact He.frT_none q z
  · have ⟨_, o, q, z⟩ := tab p hp
    exact q.trans (congrArg some (He.emptyTab_eq z))
end
def obsS (n : Nat) (fa : List He.Fa) (fn : List He.DefD) (ts : List He.Tab) (tf : List He.Defn) (ex : PySem.W.Frag → Bool) (g : Addr → Option Obj) : He.AlX :=
  (He.obsT fa fn ts (frS g n), ex (frS g n) && He.tabsB g tf (frS g n))
def hookS (n : Nat) (fa : List He.Fa) (fn : List He.DefD) (ts : List He.Tab) (tf : List He.Defn) (ex : PySem.W.Frag → Bool) : PySem.W.Hook :=
  { α := He.AlX, obs := fun s => obsS n fa fn ts tf ex s.heap.get?, val := He.valX fn ts, says := fun w h => ∃ K : PySem.W.Frag, K.In h ∧ He.SaysX fa fn ts tf ex w h K,
    of := fun _ _ e => ⟨_, He.frT_in, says_any e⟩, keeps := (He.hookX n fa fn ts tf ex).keeps }
end BW
namespace BW
open PySem L2 DL
abbrev dd (x : PySem.Str) (i : Nat) : He.DefD := ⟨(x, none), x, x, defArgs (top i), defBody (top i), defScope (top i), [], []⟩
abbrev dm (x m q : PySem.Str) (i j : Nat) : He.DefD := ⟨(x, some m), m, q, defArgs (memS i j), defBody (memS i j), defScope (memS i j), [], []⟩
def fn : List He.DefD := [dd "is_whole" 13, dd "is_letter" 14, dd "check_letters" 15, dd "can_stand" 16, dd "check_shape" 17, dd "check_table" 18, dd "weight_of" 19, dd "weights_from" 20, dd "as_word" 23, dd "fewer_first" 24, dd "first_row" 26, dd "pressed" 27, dd "row_behind" 28, dd "row_of" 29, dd "alike" 30, dd "is_choice" 32, dd "check_choice" 33, dd "choices_of" 34, dd "all_letters" 37, dd "piece_around" 38, dd "hangs_together" 39, dd "pieces" 40, dd "_law_mixed" 42, dd "_law_folded" 43, dd "_law_draw" 44, dd "_law_begun" 45, dd "_law_like" 46, dd "_law_table" 47, dd "_law_word" 48, dd "_law_near_of" 49, dd "_law_hangs" 50, dd "_law_is_in" 51, dd "law" 52, dm "Bonds" "__init__" "Bonds.__init__" 21 0, dm "Bonds" "__len__" "Bonds.__len__" 21 1, dm "Bonds" "bond" "Bonds.bond" 21 3]
def fa : List He.Fa := [.glo "is_whole", .glo "is_letter", .glo "check_letters", .glo "can_stand", .glo "check_shape", .glo "check_table", .glo "weight_of", .glo "weights_from", .glo "as_word", .glo "fewer_first", .glo "first_row", .glo "pressed", .glo "row_behind", .glo "row_of", .glo "alike", .glo "is_choice", .glo "check_choice", .glo "choices_of", .glo "all_letters", .glo "piece_around", .glo "hangs_together", .glo "pieces", .glo "_law_mixed", .glo "_law_folded", .glo "_law_draw", .glo "_law_begun", .glo "_law_like", .glo "_law_table", .glo "_law_word", .glo "_law_near_of", .glo "_law_hangs", .glo "_law_is_in", .glo "law", .free "isinstance", .free "int", .free "bool", .free "list", .free "tuple", .free "len", .free "range", .free "enumerate", .free "sorted", .free "zip", .free "all", .free "any", .free "repr", .int "MOST_LETTERS" (6), .int "MOST_WORD" (60), .int "OWN_BOND" (1), .int "OWN_WEIGHT" (-2), .int "LOOSE" (2), .glo "Bonds", .cls "Bonds", .noat "Bonds" "table", .noat "Bonds" "weights", .mkr "Bonds", .meth "Bonds" "__len__", .glo "WEIGHTS", .glo "BondError", .glo "BadBonds", .glo "BadWord", .glo "BadNumber", .glo "TooGreat", .meth "Bonds" "bond"]
def wts0 : List (Int × List Int) := [(2, [0, 0]), (3, [1, 1]), (4, [1, 2]), (6, [1, 3]), (0, [2, 2])]
def tabL : List He.Tab := []
abbrev lamL : List ((PySem.Str × Option PySem.Str) × PySem.Str) := [(("fewer_first", none), lamQ_fewer_first)]
abbrev tfL : List (PySem.Str × Option PySem.Str) := [("fewer_first", none)]
def ndB (K : PySem.W.Frag) : Bool := decide ((lamL.map fun x => (He.cT K x.1).2).Nodup)
def exB (K : PySem.W.Frag) : Bool := sysB K && (kdB K "WEIGHTS" wts0 && (ndB K && ((((((true))))))))
abbrev R : PySem.W.OpenRow := PySem.W.OpenLaw.row PySem.Challenge.rw_bondwords_k56_pieces
abbrev hk : PySem.W.Hook := hookS 4 fa fn tabL tfL exB
def ob (s : PySem.W.SharedT) : He.AlX := obsS 4 fa fn tabL tfL exB (HandSHeadRun.getT s)
def names0 : List PySem.Str := ["__name__", "BondError", "BadBonds", "BadWord", "BadNumber", "BadChoice", "TooGreat", "MOST_LETTERS", "MOST_WORD", "WEIGHTS", "OWN_BOND", "OWN_WEIGHT", "is_whole", "is_letter", "check_letters", "can_stand", "check_shape", "check_table", "weight_of", "weights_from", "Bonds", "as_word", "fewer_first", "first_row", "pressed", "row_behind", "row_of", "alike", "is_choice", "check_choice"]
def names1 : List PySem.Str := ["choices_of", "LOOSE", "all_letters", "piece_around", "hangs_together", "pieces", "_law_mixed", "_law_folded", "_law_draw", "_law_begun", "_law_like", "_law_table", "_law_word", "_law_near_of", "_law_hangs", "_law_is_in"]
abbrev names : List PySem.Str := names0 ++ names1
end BW
set_option maxHeartbeats 0
namespace BW
open PySem PySem.Spec PyProof.Rows L2
abbrev PR (w : World) : Prop := HandSHeadRun.RunEq R (PySem.W.view R.prog [52]) hk ob 6000 names w
theorem run0 (w : World) : PR (w.withFollow "special-get-raises" false) := fun os => by kernel_rfl
theorem run1 (w : World) : PR (w.withFollow "special-get-raises" true) := fun os => by kernel_rfl
end BW
open PySem PySem.W PyProof.Rows
end
set_option Elab.async false
set_option linter.all false
set_option maxRecDepth 100000
namespace DL
open PySem L2
open PySem.W (Frag)
inductive D where
  | non | bl (b : Bool) | int (i : Int) | str (x : PySem.Str)
  | lst (xs : List D) | tup (xs : List D) | dic | ins (C : Addr) (ns : List PySem.Str) (xs : List D)
  | exc (n : PySem.Str) (ns : List PySem.Str) (xs : List D)
def xob (a : Addr) (cls : Value) (dd : Option Addr) : HO := .ext fun h => ∃ oe vs, h.get? a = some oe ∧ (oe.cls = cls ∧ oe.dict = dd) ∧ oe.data = .fields vs
def ExF (H : Hp) (dd : Option Addr) (ns : List PySem.Str) (vs : List V) : Prop := (ns = [] ∧ dd = none) ∨ ∃ d, dd = some d ∧ H d = some (.xd (ns.zip vs))
mutual
inductive Rl (K : Frag) (H : Hp) : V → D → Prop
  | non : Rl K H .non .non
  | bl (b : Bool) : Rl K H (.bl b) (.bl b)
  | int (i : Int) : Rl K H (.int i) (.int i)
  | str (x : PySem.Str) : Rl K H (.str x) (.str x)
  | lst {a : Addr} {vs : List V} {ds : List D} : H a = some (.lst vs) → RlA K H vs ds → Rl K H (.ref a) (.lst ds)
  | tup {a : Addr} {vs : List V} {ds : List D} : SqT K H a vs → RlA K H vs ds → Rl K H (.ref a) (.tup ds)
  | dic {a : Addr} : H a = some (.dK []) → Rl K H (.ref a) .dic
  | ins {a C dx : Addr} {ns : List PySem.Str} {vs : List V} {ds : List D} : H a = some (.ins C dx (ns.zip vs)) → ns.length = vs.length → RlA K H vs ds → Rl K H (.ref a) (.ins C ns ds)
  | exc {a : Addr} {n : PySem.Str} {dd : Option Addr} {ns : List PySem.Str} {vs : List V} {ds : List D} : H a = some (xob a (.ref (He.ga K n)) dd) → ExF H dd ns vs → ns.length = vs.length → RlA K H vs ds → Rl K H (.ref a) (.exc n ns ds)
inductive RlA (K : Frag) (H : Hp) : List V → List D → Prop
  | nil : RlA K H [] []
  | cons {v : V} {vs : List V} {d : D} {ds : List D} : Rl K H v d → RlA K H vs ds → RlA K H (v :: vs) (d :: ds)
end
def Sub (A B : Hp) : Prop := ∀ a o, A a = some o → B a = some o
theorem Sub.refl (A : Hp) : Sub A A := fun _ _ h => h
theorem Sub.trans {A B C : Hp} (x : Sub A B) (y : Sub B C) : Sub A C := fun a o h => y a o (x a o h)
theorem Sub.rd {A B : Hp} (x : Sub A B) {a : Addr} {u : HO} (h : Rd A a u) : Rd B a u := by
  rcases h with h | ⟨o, h⟩
  · exact .inl (x _ _ h)
  · exact .inr ⟨o, x _ _ h⟩
theorem Sub.sl {K : Frag} {A B : Hp} (x : Sub A B) {a : Addr} {vs : List V} (h : SqL K A a vs) : SqL K B a vs := by
  rcases h with h | h
  · exact .inl (x.rd h)
  · exact .inr h
theorem Sub.st {K : Frag} {A B : Hp} (x : Sub A B) {a : Addr} {vs : List V} (h : SqT K A a vs) : SqT K B a vs := by
  rcases h with h | h
  · exact .inl (x.rd h)
  · exact .inr h
theorem ExF.mono {A B : Hp} (x : Sub A B) {dd : Option Addr} {ns : List PySem.Str} {vs : List V} (h : ExF A dd ns vs) : ExF B dd ns vs := h.imp id fun ⟨d, e, q⟩ => ⟨d, e, x _ _ q⟩
mutual
theorem Rl.mono {K : Frag} {A B : Hp} (x : Sub A B) : ∀ {v : V} {d : D}, Rl K A v d → Rl K B v d
  | _, _, .non => .non
  | _, _, .bl b => .bl b
  | _, _, .int i => .int i
  | _, _, .str s => .str s
  | _, _, .lst h r => .lst (x _ _ h) (RlA.mono x r)
  | _, _, .tup h r => .tup (x.st h) (RlA.mono x r)
  | _, _, .dic h => .dic (x _ _ h)
  | _, _, .ins h l r => .ins (x _ _ h) l (RlA.mono x r)
  | _, _, .exc h f l r => .exc (x _ _ h) (f.mono x) l (RlA.mono x r)
theorem RlA.mono {K : Frag} {A B : Hp} (x : Sub A B) : ∀ {vs : List V} {ds : List D}, RlA K A vs ds → RlA K B vs ds
  | _, _, .nil => .nil
  | _, _, .cons h r => .cons (Rl.mono x h) (RlA.mono x r)
end
theorem RlA.len {K : Frag} {A : Hp} : ∀ {vs : List V} {ds : List D}, RlA K A vs ds → vs.length = ds.length
  | _, _, .nil => rfl
  | _, _, .cons _ r => congrArg (· + 1) (RlA.len r)
theorem RlA.get {K : Frag} {A : Hp} : ∀ {vs : List V} {ds : List D} {i : Nat} {v : V}, RlA K A vs ds → vs[i]? = some v → ∃ d, ds[i]? = some d ∧ Rl K A v d
  | _, _, _, _, .nil, e => by simp at e
  | _, _, 0, _, .cons h _, e => by simp at e; subst e; exact ⟨_, rfl, h⟩
  | _, _, i + 1, v, .cons _ r, e => by
    obtain ⟨d, h1, h2⟩ := RlA.get (i := i) (v := v) r (by simpa using e)
    exact ⟨d, by simpa using h1, h2⟩
theorem RlA.getD {K : Frag} {A : Hp} : ∀ {vs : List V} {ds : List D} {i : Nat} {d : D}, RlA K A vs ds → ds[i]? = some d → ∃ v, vs[i]? = some v ∧ Rl K A v d
  | _, _, _, _, .nil, e => by simp at e
  | _, _, 0, _, .cons h _, e => by simp at e; subst e; exact ⟨_, rfl, h⟩
  | _, _, i + 1, d, .cons _ r, e => by
    obtain ⟨v, h1, h2⟩ := RlA.getD (i := i) (d := d) r (by simpa using e)
    exact ⟨v, by simpa using h1, h2⟩
theorem RlA.app {K : Frag} {A : Hp} : ∀ {vs us : List V} {ds es : List D}, RlA K A vs ds → RlA K A us es → RlA K A (vs ++ us) (ds ++ es)
  | _, _, _, _, .nil, s => s
  | _, _, _, _, .cons h r, s => .cons h (RlA.app r s)
theorem RlA.take {K : Frag} {A : Hp} : ∀ {vs : List V} {ds : List D} (n : Nat), RlA K A vs ds → RlA K A (vs.take n) (ds.take n)
  | _, _, 0, _ => .nil
  | _, _, _ + 1, .nil => .nil
  | _, _, n + 1, .cons h r => .cons h (RlA.take n r)
theorem RlA.drop {K : Frag} {A : Hp} : ∀ {vs : List V} {ds : List D} (n : Nat), RlA K A vs ds → RlA K A (vs.drop n) (ds.drop n)
  | _, _, 0, r => r
  | _, _, _ + 1, .nil => .nil
  | _, _, n + 1, .cons _ r => RlA.drop n r
theorem RlA.set {K : Frag} {A : Hp} {v : V} {d : D} (h : Rl K A v d) : ∀ {vs : List V} {ds : List D} (i : Nat), RlA K A vs ds → RlA K A (vs.set i v) (ds.set i d)
  | _, _, _, .nil => .nil
  | _, _, 0, .cons _ r => .cons h r
  | _, _, i + 1, .cons q r => .cons q (RlA.set h i r)
theorem RlA.ints {K : Frag} {A : Hp} : ∀ (ns : List Int), RlA K A (ns.map V.int) (ns.map D.int)
  | [] => .nil
  | n :: r => .cons (.int n) (RlA.ints r)
theorem RlA.ints_v {K : Frag} {A : Hp} : ∀ {ns : List Int} {vs : List V}, RlA K A vs (ns.map D.int) → vs = ns.map V.int
  | [], _, .nil => rfl
  | n :: r, _, .cons h q => by
    cases h
    rw [RlA.ints_v q]
    rfl
def NoTb (o : HO) : Prop := ∀ ps, o ≠ .tbl ps
theorem wo_all {H : Hp} {X : List Addr} {a : Addr} {o : HO} (h : wo H X a = some o) : a ∉ X ∧ H a = some o ∧ NoTb o := by
  unfold wo at h
  split at h
  · cases h
  · refine ⟨by assumption, ?_⟩
    split at h
    · cases h
    · rename_i n
      refine ⟨h, fun ps e => ?_⟩
      subst e
      exact n _ h
theorem wo_sub (H : Hp) (X : List Addr) : Sub (wo H X) H := fun a o h => (wo_all h).2.1
theorem wo_ne {H : Hp} {X : List Addr} {a : Addr} {o : HO} (h : wo H X a = some o) : a ∉ X ∧ H a = some o := ⟨(wo_all h).1, (wo_all h).2.1⟩
theorem wo_tb {H : Hp} {X : List Addr} {a : Addr} {o : HO} (h : wo H X a = some o) : NoTb o := (wo_all h).2.2
theorem wo_of {H : Hp} {X : List Addr} {a : Addr} {o : HO} (hx : a ∉ X) (h : H a = some o) (ht : NoTb o := by first | (intro _ z; cases z; done) | exact wo_tb (by assumption)) : wo H X a = some o := by
  unfold wo
  rw [if_neg hx, h]
  cases o <;> first | rfl | exact absurd rfl (ht _)
structure TbK (A B : Hp) : Prop where
  tabs : ∀ T, LamX.Tabs T A → LamX.Tabs T B
  tbl : ∀ p ps, A p = some (.tbl ps) → ∃ qs, B p = some (.tbl qs)
theorem TbK.refl {A : Hp} : TbK A A := ⟨fun _ h => h, fun _ _ h => ⟨_, h⟩⟩
theorem TbK.trans {A B C : Hp} (x : TbK A B) (y : TbK B C) : TbK A C := ⟨fun T h => y.tabs T (x.tabs T h), fun p ps h => by
  obtain ⟨qs, e⟩ := x.tbl p ps h
  exact y.tbl p qs e⟩
theorem TbK.of {A B : Hp} (h : ∀ a o, A a = some o → (∃ ps, o = .tbl ps) ∨ (∃ q, o = LamX.CodeO a q) → B a = some o) : TbK A B := ⟨fun T t p hp => by
  obtain ⟨ps, h1, h2, h3⟩ := t p hp
  refine ⟨ps, h _ _ h1 (.inl ⟨_, rfl⟩), h2, fun pos cv hc => ?_⟩
  obtain ⟨c, e1, e2⟩ := h3 pos cv hc
  exact ⟨c, e1, h _ _ e2 (.inr ⟨_, rfl⟩)⟩, fun p ps e => ⟨ps, h _ _ e (.inl ⟨_, rfl⟩)⟩⟩
theorem TbK.upd {H : Hp} {p : Addr} {o : HO} (h : ∀ u, H p = some u → ¬ ((∃ ps, u = .tbl ps) ∨ ∃ q, u = LamX.CodeO p q)) : TbK H (upd H p o) := .of fun a u e k => by
  by_cases z : a = p
  · subst z; exact absurd k (h u e)
  · rw [upd_ne z]; exact e
theorem TbK.new {H : Hp} {p : Addr} {o : HO} (h : H p = none) : TbK H (L2.upd H p o) := .upd fun u e => by rw [h] at e; cases e
theorem TbK.at_ {H : Hp} {p : Addr} {o u : HO} (h : H p = some u) (h1 : NoTb u := by intro _ z; cases z) (h2 : ∀ q, u ≠ LamX.CodeO p q := by intro _ z; cases z) : TbK H (L2.upd H p o) := .upd fun v e => by
  rw [h] at e; cases e
  rintro (⟨ps, z⟩ | ⟨q, z⟩)
  · exact h1 _ z
  · exact h2 _ z
theorem wo_more {H : Hp} {X Y : List Addr} (h : ∀ a ∈ X, a ∈ Y) : Sub (wo H Y) (wo H X) := fun a o e => by
  obtain ⟨n, e⟩ := wo_ne e
  exact wo_of (fun z => n (h a z)) e
theorem wo_new {H : Hp} {X : List Addr} {p : Addr} {o : HO} (hp : H p = none) : Sub (wo H X) (wo (upd H p o) X) := fun a u e => by
  obtain ⟨n, e⟩ := wo_ne e
  exact wo_of n (by rw [upd_ne (ne_of_none e hp)]; exact e)
theorem wo_mut {H : Hp} {X : List Addr} {p : Addr} {o : HO} (hp : p ∈ X) : Sub (wo H X) (wo (upd H p o) X) := fun a u e => by
  obtain ⟨n, e⟩ := wo_ne e
  exact wo_of n (by rw [upd_ne (fun z => n (by rw [z]; exact hp))]; exact e)
structure Mc where
  (pm pc pg : Addr)
  T : List (Addr × PySem.Str)
def Ml : Option Mc → List Addr
  | none => []
  | some m => [m.pm, m.pc, m.pg]
structure MOk (m : Mc) (H : Hp) (cs gs : List Int) (n : Nat) : Prop where
  hm : H m.pm = some (.dK [(Sum.inr "cells", .ref m.pc), (Sum.inr "great", .ref m.pg), (Sum.inr "spot", .int n)])
  hc : H m.pc = some (.lst (cs.map V.int))
  hg : H m.pg = some (.lst (gs.map V.int))
  lc : cs.length = 64
  bc : ∀ x ∈ cs, 0 ≤ x ∧ x < 2147483647
  lg : gs.length ≤ 63
  bg : ∀ x ∈ gs, 0 ≤ x
def MAt (m : Option Mc) (H : Hp) (k : Nat) : Prop := match m with
  | none => True
  | some m => ∃ cs gs n, MOk m H cs gs n ∧ n ≤ k ∧ LamX.Tabs m.T H
theorem MAt.mono {m : Option Mc} {H : Hp} {j k : Nat} (h : MAt m H j) (l : j ≤ k) : MAt m H k := by
  cases m with
  | none => trivial
  | some m =>
    obtain ⟨cs, gs, n, o, q⟩ := h
    exact ⟨cs, gs, n, o, Nat.le_trans q.1 l, q.2⟩
theorem MAt.eq {m : Option Mc} {H H' : Hp} {k : Nat} (h : MAt m H k) (e : ∀ a ∈ Ml m, H a ≠ none → H' a = H a) (t : TbK H H') : MAt m H' k := by
  cases m with
  | none => trivial
  | some m =>
    obtain ⟨cs, gs, n, o, q⟩ := h
    have e1 := e m.pm (by simp [Ml]) (by rw [o.hm]; simp)
    have e2 := e m.pc (by simp [Ml]) (by rw [o.hc]; simp)
    have e3 := e m.pg (by simp [Ml]) (by rw [o.hg]; simp)
    exact ⟨cs, gs, n, ⟨e1.trans o.hm, e2.trans o.hc, e3.trans o.hg, o.lc, o.bc, o.lg, o.bg⟩, q.1, t.tabs _ q.2⟩
theorem MAt.there {m : Option Mc} {H : Hp} {k : Nat} (h : MAt m H k) : ∀ a ∈ Ml m, H a ≠ none := by
  cases m with
  | none => intro a ha; simp [Ml] at ha
  | some m =>
    obtain ⟨cs, gs, n, o, q⟩ := h
    intro a ha
    simp [Ml] at ha
    rcases ha with rfl | rfl | rfl
    · rw [o.hm]; simp
    · rw [o.hc]; simp
    · rw [o.hg]; simp
inductive Sl where
  | no | dat (d : D) | own (p : Addr) (ds : List D) | mst | scr (ns : List Int)
structure S where
  X : List Addr
  sl : List Sl
  k : Nat
structure C where
  K : Frag
  M : Option Mc
  X0 : List Addr
  H0 : Hp
  ow : List Nat := []
abbrev C.hid (c : C) (X : List Addr) (H : Hp) : Hp := wo H (Ml c.M ++ X)
def SlOk (c : C) (X : List Addr) (H : Hp) (x : Option (Option V)) : Sl → Prop
  | .no => True
  | .dat d => ∃ v, x = some (some v) ∧ Rl c.K (c.hid X H) v d
  | .own p ds => x = some (some (.ref p)) ∧ p ∈ X ∧ p ∉ c.X0 ∧ c.H0 p = none ∧ ∃ vs, H p = some (.lst vs) ∧ RlA c.K (c.hid X H) vs ds
  | .mst => ∃ m, c.M = some m ∧ x = some (some (.ref m.pm))
  | .scr ns => ∃ a, x = some (some (.ref a)) ∧ SqL c.K (c.hid X H) a (ns.map V.int)
structure Rep (c : C) (s : S) (σ : L2.St) (H : Hp) : Prop where
  sub : Sub (c.hid c.X0 c.H0) (c.hid s.X H)
  old : ∀ a ∈ c.X0, a ∉ Ml c.M → c.H0 a ≠ none → H a = c.H0 a
  x0 : ∀ a ∈ c.X0, a ∈ s.X
  xm : ∀ a ∈ s.X, a ∉ Ml c.M
  xs : ∀ a ∈ s.X, H a ≠ none
  m : MAt c.M H s.k
  slot : ∀ (i : Nat) (x : Sl), s.sl[i]? = some x → SlOk c s.X H σ[i]? x
  apart : ∀ (i j : Nat) (p q : Addr) (ds es : List D), s.sl[i]? = some (.own p ds) → s.sl[j]? = some (.own q es) → i ≠ j → p ≠ q
  len : s.sl.length = σ.length
  tb : TbK c.H0 H
  xt : ∀ a ∈ s.X, ∀ ps, H a ≠ some (.tbl ps)
def Adv (c : C) (s : S) (H : Hp) (s' : S) (H' : Hp) : Prop := Sub (c.hid s.X H) (c.hid s'.X H')
theorem Adv.refl {c : C} {s : S} {H : Hp} : Adv c s H s H := Sub.refl _
abbrev S.at (s : S) (k : Nat) : S := { s with k := k }
theorem Rep.more {c : C} {s : S} {σ : L2.St} {H : Hp} {k : Nat} (r : Rep c s σ H) (h : s.k ≤ k) : Rep c (s.at k) σ H := ⟨r.sub, r.old, r.x0, r.xm, r.xs, r.m.mono h, r.slot, r.apart, r.len, r.tb, r.xt⟩
theorem Rep.step {c : C} {s : S} {σ : L2.St} {H H' : Hp} {k : Nat} (r : Rep c s σ H) (a : Sub (c.hid s.X H) (c.hid s.X H')) (x : ∀ a ∈ s.X, H a ≠ none → H' a = H a) (m : MAt c.M H' k) (tb : TbK c.H0 H') : Rep c (s.at k) σ H' := by
  refine ⟨r.sub.trans a, fun b hb hm hn => ?_, r.x0, r.xm, fun b hb => ?_, m, fun i y e => ?_, r.apart, r.len, tb, fun b hb => by rw [x b hb (r.xs b hb)]; exact r.xt b hb⟩
  · rw [x b (r.x0 b hb) (r.xs b (r.x0 b hb)), r.old b hb hm hn]
  · rw [x b hb (r.xs b hb)]; exact r.xs b hb
  · have q := r.slot i y e
    cases y with
    | no => trivial
    | dat d =>
      obtain ⟨v, e, h⟩ := q
      exact ⟨v, e, h.mono a⟩
    | own p ds =>
      obtain ⟨e, h1, h2, h3, vs, h4, h5⟩ := q
      exact ⟨e, h1, h2, h3, vs, by rw [x p h1 (r.xs p h1)]; exact h4, h5.mono a⟩
    | mst => exact q
    | scr ns =>
      obtain ⟨v, e, h⟩ := q
      exact ⟨v, e, a.sl h⟩
structure AdvE (c : C) (X : List Addr) (H H' : Hp) : Prop where
  sub : Sub (c.hid X H) (c.hid X H')
  own : ∀ a ∈ X, H' a = H a
theorem AdvE.refl {c : C} {X : List Addr} {H : Hp} : AdvE c X H H := ⟨Sub.refl _, fun _ _ => rfl⟩
theorem AdvE.trans {c : C} {X : List Addr} {H H1 H2 : Hp} (a : AdvE c X H H1) (b : AdvE c X H1 H2) : AdvE c X H H2 := ⟨a.sub.trans b.sub, fun x h => (b.own x h).trans (a.own x h)⟩
theorem Rep.new {c : C} {s : S} {σ : L2.St} {H : Hp} {p : Addr} {o : HO} (r : Rep c s σ H) (hp : H p = none) : Rep c s σ (upd H p o) ∧ AdvE c s.X H (upd H p o) := by
  have a : Sub (c.hid s.X H) (c.hid s.X (upd H p o)) := wo_new hp
  have e : ∀ b, H b ≠ none → upd H p o b = H b := fun b h => upd_ne fun z => h (z ▸ hp)
  exact ⟨r.step (k := s.k) a (fun b _ h => e b h) (r.m.eq (fun b hb h => e b h) (.new hp)) (r.tb.trans (.new hp)), a, fun b hb => e b (r.xs b hb)⟩
theorem Rep.free {c : C} {s : S} {σ : L2.St} {H : Hp} {p : Addr} (r : Rep c s σ H) (hp : H p = none) : p ∉ Ml c.M ++ s.X := fun z => by
  rcases List.mem_append.mp z with z | z
  · exact r.m.there p z hp
  · exact r.xs p z hp
theorem Rep.at_new {c : C} {s : S} {σ : L2.St} {H : Hp} {p : Addr} {o : HO} (r : Rep c s σ H) (hp : H p = none) (ht : NoTb o := by intro _ z; cases z) : (c.hid s.X (upd H p o)) p = some o := wo_of (r.free hp) upd_same ht
end DL
namespace DL
open PySem L2
theorem tup_once (l : Addr) (its : Array Value) (n : Nat) (dd : Option Addr) (sl : Array (Option Value)) (u : Tok) :
    Meets (Builtin.«tuple.__mul__» ⟨[.ref l, .int 1 u], []⟩) (fun _ R s => s.heap.get? l = some { cls := .type "tuple", dict := dd, data := .seq its n, slots := sl } ∧ R (.ok (.ret (Value.ref l))) s) := by
  refine .of_wp fun P' w' A' R s' hh => ?_
  obtain ⟨hp, gg, dd', tt, oo⟩ := s'
  obtain ⟨hl, hR⟩ := hh
  have f1 := AutoSeq1.idx_int
  have c1 : (its.isEmpty || (1 : Int) == 1) = true := by rw [show ((1 : Int) == 1) = true from rfl, Bool.or_true]
  wp_walk using AutoSeq1.wpAny_loadPart' hl
  exact ⟨_, rfl, hR⟩
section
variable {X : Cx}
theorem op_rep1 : OpR X (binaryOp .Mult) (fun x y H Q => ∃ l xs, x = .ref l ∧ y = .int 1 ∧ SqT X.K H l xs ∧ Q (.ref l) H) := by
  intro pins s σ H x y v u Q I rx ry h
  obtain ⟨l, xs, rfl, rfl, hT, q⟩ := h
  cases rx
  obtain ⟨t, rfl⟩ := ry
  obtain ⟨its, r, ⟨⟨cls, dd, data, sl⟩, ho, hc, n, hd⟩, hs⟩ := I.tuple hT
  simp only at hc hd
  subst hc hd
  refine wpAny_binaryOp_repeat_ref (T := "tuple") (U := "int") (by decide) ⟨_, ho, rfl⟩ (fun s' => typeIs_int s' 1 t) noFill_tuple_mul F.fills_int_mul F.slot_int_rmul repeat_tuple F.slot_int_index.lookup ?_
  refine PySem.call_meets F.slot_int_rmul (typeIs_int s 1 t) F.entry_int_rmul (F.args_int_rmul_2 _ _) (int_rmul_tuple 1 t l its.toArray n dd sl) ⟨ho, rfl, ⟨_, ho, rfl⟩, ?_⟩
  refine PySem.call_meets F.slot_tuple_mul ⟨_, ho, rfl⟩ F.entry_tuple_mul (F.args_tuple_mul_2 _ _) (tup_once l its.toArray n dd sl t) ⟨ho, ?_⟩
  exact ⟨.ref l, H, I, rfl, q⟩
end
end DL
namespace L2
open PySem
section
variable {X : Cx}
theorem PE.weak {e : Expr} {t t' : TE} (h : PE X e t) (w : ∀ σ H Q, t' σ H Q → t σ H Q) : PE X e t' := ⟨fun p s σ H Q I q => h.run p s σ H Q I (w _ _ _ q)⟩
theorem PT.weak {e : Expr} {t t' : TT} (h : PT X e t) (w : ∀ σ H Q, t' σ H Q → t σ H Q) : PT X e t' := ⟨fun p s σ H Q I q => h.run p s σ H Q I (w _ _ _ q)⟩
theorem PW.weak {e : Expr} {t t' : TT} (h : PW X e t) (w : ∀ σ H Q, t' σ H Q → t σ H Q) : PW X e t' := ⟨fun x p s σ H Q I q => h.run x p s σ H Q I (w _ _ _ q)⟩
theorem PA.weak {e : List Expr} {t t' : TA} (h : PA X e t) (w : ∀ σ H Q, t' σ H Q → t σ H Q) : PA X e t' := ⟨fun x p s σ H Q I q => h.run x p s σ H Q I (w _ _ _ q)⟩
theorem PS.weak {e : Stmt} {t t' : TS} (h : PS X e t) (w : ∀ D σ H, t' D σ H → t D σ H) : PS X e t' := ⟨fun p s σ H D I q => h.run p s σ H D I (w _ _ _ q)⟩
theorem PSs.weak {e : List Stmt} {t t' : TS} (h : PSs X e t) (w : ∀ D σ H, t' D σ H → t D σ H) : PSs X e t' := ⟨fun p s σ H D I q => h.run p s σ H D I (w _ _ _ q)⟩
end
end L2
namespace DL
open PySem L2
open PySem.W (Frag)
abbrev DE := S → (D → Nat → Prop) → Prop
abbrev DT := S → (Bool → Nat → Prop) → Prop
abbrev DA := S → (List D → Nat → Prop) → Prop
def LE (c : C) (t : DE) : TE := fun σ H Q => ∃ s R, Rep c s σ H ∧ t s R ∧ ∀ d k, R d k → ∀ v H', Rep c (s.at k) σ H' → AdvE c s.X H H' → Rl c.K (c.hid s.X H') v d → Q v H'
def LT (c : C) (t : DT) : TT := fun σ H Q => ∃ s R, Rep c s σ H ∧ t s R ∧ ∀ b k, R b k → ∀ H', Rep c (s.at k) σ H' → AdvE c s.X H H' → Q b H'
def LA (c : C) (t : DA) : TA := fun σ H Q => ∃ s R, Rep c s σ H ∧ t s R ∧ ∀ ds k, R ds k → ∀ vs H', Rep c (s.at k) σ H' → AdvE c s.X H H' → RlA c.K (c.hid s.X H') vs ds → Q vs H'
abbrev dVar (i : Nat) : DE := fun s Q => ∃ d, s.sl[i]? = some (.dat d) ∧ Q d s.k
abbrev dC (d : D) : DE := fun s Q => Q d s.k
section
variable {X : Cx} {c : C}
theorem pd_var (i : Nat) {x : PySem.Str} {pos : Pos} (hN : X.N[i]? = some x := by rfl) (hv : Vis X.env.scope x := by first | exact Or.inl rfl | exact Or.inr (Or.inl rfl) | exact Or.inr (Or.inr rfl)) (hd : (x == ("__debug__" : PySem.Str)) = false := by decide)
    (hcd : (x == ("__classdict__" : PySem.Str)) = false := by decide) : PE X (.Name x pos) (LE c (dVar i)) := by
  refine (pe_var hN hv hd hcd).weak fun σ H Q ⟨s, R, r, ⟨d, e, q⟩, f⟩ => ?_
  obtain ⟨v, e1, h⟩ := r.slot i _ e
  exact ⟨v, e1, f _ _ q v H r AdvE.refl h⟩
theorem LE.const {v : V} {d : D} (h : ∀ H, Rl c.K H v d) (σ : L2.St) (H : Hp) (Q : VK) (x : LE c (dC d) σ H Q) : Q v H := by
  obtain ⟨s, R, r, q, f⟩ := x
  exact f _ _ q v H r AdvE.refl (h _)
theorem pd_int {i j pos} : PE X (.Constant (.int i) j pos) (LE c (dC (.int i))) := pe_int.weak fun σ H Q h => LE.const (fun _ => .int i) σ H Q h
theorem pd_bl {b j pos} : PE X (.Constant (.bool b) j pos) (LE c (dC (.bl b))) := pe_bl.weak fun σ H Q h => LE.const (fun _ => .bl b) σ H Q h
theorem pd_globI {x : PySem.Str} {pos : Pos} {i : Int} {t : Tok} (hm : X.mg x = some (.int i t)) (hg : Gl X x := by rfl) (hd : (x == ("__debug__" : PySem.Str)) = false := by decide) : PE X (.Name x pos) (LE c (dC (.int i))) :=
  (pe_glob (v := .int i) hg hm ⟨t, rfl⟩ hd).weak fun σ H Q h => LE.const (fun _ => .int i) σ H Q h
end
abbrev O2 := D → D → (D → Prop) → Prop
def Wi (c : C) (s : S) (σ : L2.St) (H : Hp) (R : D → Prop) (Q : VK) : Prop := ∀ d, R d → ∀ v H', Rep c s σ H' → AdvE c s.X H H' → Rl c.K (c.hid s.X H') v d → Q v H'
def Fit2 (c : C) (r : R2) (o : O2) : Prop := ∀ (s : S) (σ : L2.St) (H : Hp) (x y : V) (a b : D) (R : D → Prop) (Q : VK), Rep c s σ H → Rl c.K (c.hid s.X H) x a → Rl c.K (c.hid s.X H) y b → o a b R → Wi c s σ H R Q → r x y H Q
abbrev dOp (o : O2) (a b : DE) : DE := fun s Q => a s fun x k => b (s.at k) fun y k' => o x y fun z => Q z k'
theorem LE.op {c : C} {r : R2} {o : O2} {a b : DE} (f : Fit2 c r o) (σ : L2.St) (H : Hp) (Q : VK) (h : LE c (dOp o a b) σ H Q) : tOp r (LE c a) (LE c b) σ H Q := by
  obtain ⟨s, R, rp, h, fin⟩ := h
  refine ⟨s, _, rp, h, fun x k h1 v H1 r1 a1 e1 => ?_⟩
  refine ⟨s.at k, _, r1, h1, fun y k2 h2 u H2 r2 a2 e2 => ?_⟩
  exact f (s.at k2) σ H2 v u x y _ Q r2 (e1.mono a2.sub) e2 h2 fun z hz w H3 r3 a3 e3 => fin z k2 hz w H3 r3 ((a1.trans a2).trans a3) e3
theorem Wi.same {c : C} {s : S} {σ : L2.St} {H : Hp} {R : D → Prop} {Q : VK} (w : Wi c s σ H R Q) (rp : Rep c s σ H) {d : D} {v : V} (h : R d) (e : Rl c.K (c.hid s.X H) v d) : Q v H := w d h v H rp AdvE.refl e
theorem Wi.lst {c : C} {s : S} {σ : L2.St} {H : Hp} {R : D → Prop} {Q : VK} (w : Wi c s σ H R Q) (rp : Rep c s σ H) {ds : List D} {vs : List V} (h : R (.lst ds)) (e : RlA c.K (c.hid s.X H) vs ds) : ∀ p, H p = none → Q (.ref p) (upd H p (.lst vs)) := fun p hp =>
  have n := rp.new (o := .lst vs) hp
  w _ h _ _ n.1 n.2 (.lst (rp.at_new hp) (e.mono n.2.sub))
theorem Wi.tup {c : C} {s : S} {σ : L2.St} {H : Hp} {R : D → Prop} {Q : VK} (w : Wi c s σ H R Q) (rp : Rep c s σ H) {ds : List D} {vs : List V} (h : R (.tup ds)) (e : RlA c.K (c.hid s.X H) vs ds) : ∀ p, H p = none → Q (.ref p) (upd H p (.tup vs)) := fun p hp =>
  have n := rp.new (o := .tup vs) hp
  w _ h _ _ n.1 n.2 (.tup (SqT.of (rp.at_new hp)) (e.mono n.2.sub))
theorem Rl.all {c : C} {s : S} {H : Hp} {v : V} {d : D} (h : Rl c.K (c.hid s.X H) v d) : Rl c.K H v d := h.mono (wo_sub _ _)
def lim : Nat := 1000000
theorem lim_le {n : Nat} (h : n ≤ lim) : n ≤ sizeLine := Nat.le_trans h (by decide)
theorem lim_lt {n : Nat} (h : n ≤ lim) : n < sizeLine := Nat.lt_of_le_of_lt h (by decide)
abbrev oAdd : O2 := fun x y Q => match x, y with
  | .int i, .int j => Q (.int (i + j))
  | .lst a, .lst b => a.length + b.length ≤ lim ∧ Q (.lst (a ++ b))
  | .tup a, .tup b => a.length + b.length ≤ lim ∧ Q (.tup (a ++ b))
  | _, _ => False
abbrev oSub : O2 := fun x y Q => match x, y with
  | .int i, .int j => Q (.int (i - j))
  | _, _ => False
abbrev oMul : O2 := fun x y Q => match x, y with
  | .int i, .int j => CMul i j ∧ Q (.int (i * j))
  | .lst a, .int k => 0 ≤ k ∧ k ≤ 1000 ∧ a.length * k.toNat ≤ lim ∧ Q (.lst (List.replicate k.toNat a).flatten)
  | .tup a, .int k => a ≠ [] ∧ 1 ≤ k ∧ k ≤ 1000 ∧ a.length ≤ 1000 ∧ Q (.tup (List.replicate k.toNat a).flatten)
  | _, _ => False
abbrev oDiv : O2 := fun x y Q => match x, y with
  | .int i, .int j => CDivW i j ∧ Q (.int (i / j))
  | _, _ => False
abbrev oMod : O2 := fun x y Q => match x, y with
  | .int i, .int j => 0 < j ∧ Q (.int (i % j))
  | _, _ => False
abbrev oPow : O2 := fun x y Q => match x, y with
  | .int i, .int j => CPow i j ∧ Q (.int (i ^ j.toNat))
  | _, _ => False
abbrev oLt : O2 := fun x y Q => match x, y with | .int i, .int j => Q (.bl (decide (i < j))) | _, _ => False
abbrev oLe : O2 := fun x y Q => match x, y with | .int i, .int j => Q (.bl (decide (i ≤ j))) | _, _ => False
abbrev oGt : O2 := fun x y Q => match x, y with | .int i, .int j => Q (.bl (decide (j < i))) | _, _ => False
abbrev oGe : O2 := fun x y Q => match x, y with | .int i, .int j => Q (.bl (decide (j ≤ i))) | _, _ => False
theorem Rl.lstE {K : Frag} {H : Hp} {v : V} {ds : List D} (h : Rl K H v (.lst ds)) : ∃ a vs, v = .ref a ∧ H a = some (.lst vs) ∧ RlA K H vs ds := by
  cases h with
  | lst h r => exact ⟨_, _, rfl, h, r⟩
theorem Rl.tupE {K : Frag} {H : Hp} {v : V} {ds : List D} (h : Rl K H v (.tup ds)) : ∃ a vs, v = .ref a ∧ SqT K H a vs ∧ RlA K H vs ds := by
  cases h with
  | tup h r => exact ⟨_, _, rfl, h, r⟩
theorem Rl.intE {K : Frag} {H : Hp} {v : V} {i : Int} (h : Rl K H v (.int i)) : v = .int i := by
  cases h; rfl
theorem Rl.blE {K : Frag} {H : Hp} {v : V} {i : Bool} (h : Rl K H v (.bl i)) : v = .bl i := by
  cases h; rfl
theorem Rl.nonE {K : Frag} {H : Hp} {v : V} (h : Rl K H v .non) : v = .non := by
  cases h; rfl
theorem RlA.repl {K : Frag} {A : Hp} {vs : List V} {ds : List D} (h : RlA K A vs ds) : ∀ n : Nat, RlA K A (List.replicate n vs).flatten (List.replicate n ds).flatten
  | 0 => .nil
  | n + 1 => by
    rw [List.replicate_succ, List.flatten_cons, List.replicate_succ, List.flatten_cons]
    exact h.app (RlA.repl h n)
section
variable {X : Cx} {c : C} (hK : c.K = X.K)
theorem fit_I {cond : Int → Int → Prop} {g : Int → Int → V} {o : O2} {go : Int → Int → D} (hg : ∀ i j H, Rl c.K H (g i j) (go i j))
    (h : ∀ x y R, o x y R → ∃ i j, x = .int i ∧ y = .int j ∧ cond i j ∧ R (go i j)) : Fit2 c (rI cond g) o := fun s σ H x y a b R Q rp hx hy ho w => by
  obtain ⟨i, j, rfl, rfl, hc, hr⟩ := h _ _ _ ho
  cases hx.intE
  cases hy.intE
  exact ⟨i, j, rfl, rfl, hc, w.same rp hr (hg i j _)⟩
theorem fit_I0 {g : Int → Int → V} {o : O2} {go : Int → Int → D} (hg : ∀ i j H, Rl c.K H (g i j) (go i j))
    (h : ∀ x y R, o x y R → ∃ i j, x = .int i ∧ y = .int j ∧ R (go i j)) : Fit2 c (rI0 g) o := fun s σ H x y a b R Q rp hx hy ho w => by
  obtain ⟨i, j, rfl, rfl, hr⟩ := h _ _ _ ho
  cases hx.intE
  cases hy.intE
  exact ⟨i, j, rfl, rfl, w.same rp hr (hg i j _)⟩
theorem fit_sub : Fit2 c (rI0 fun i j => .int (i - j)) oSub := fit_I0 (go := fun i j => .int (i - j)) (fun _ _ _ => .int _) (by (intro x y R h; cases x <;> first | exact h.elim | (cases y <;> first | exact h.elim | exact ⟨_, _, rfl, rfl, h⟩)))
theorem fit_div : Fit2 c (rI CDivW fun i j => .int (i / j)) oDiv := fit_I (go := fun i j => .int (i / j)) (fun _ _ _ => .int _) (by (intro x y R h; cases x <;> first | exact h.elim | (cases y <;> first | exact h.elim | exact ⟨_, _, rfl, rfl, h⟩)))
theorem fit_mod : Fit2 c (rI (fun _ j => 0 < j) fun i j => .int (i % j)) oMod := fit_I (go := fun i j => .int (i % j)) (fun _ _ _ => .int _) (by (intro x y R h; cases x <;> first | exact h.elim | (cases y <;> first | exact h.elim | exact ⟨_, _, rfl, rfl, h⟩)))
theorem fit_pow : Fit2 c (rI CPow fun i j => .int (i ^ j.toNat)) oPow := fit_I (go := fun i j => .int (i ^ j.toNat)) (fun _ _ _ => .int _) (by (intro x y R h; cases x <;> first | exact h.elim | (cases y <;> first | exact h.elim | exact ⟨_, _, rfl, rfl, h⟩)))
theorem fit_lt : Fit2 c (rI0 fun i j => .bl (decide (i < j))) oLt := fit_I0 (go := fun i j => .bl (decide (i < j))) (fun _ _ _ => .bl _) (by (intro x y R h; cases x <;> first | exact h.elim | (cases y <;> first | exact h.elim | exact ⟨_, _, rfl, rfl, h⟩)))
theorem fit_le : Fit2 c (rI0 fun i j => .bl (decide (i ≤ j))) oLe := fit_I0 (go := fun i j => .bl (decide (i ≤ j))) (fun _ _ _ => .bl _) (by (intro x y R h; cases x <;> first | exact h.elim | (cases y <;> first | exact h.elim | exact ⟨_, _, rfl, rfl, h⟩)))
theorem fit_gt : Fit2 c (rI0 fun i j => .bl (decide (j < i))) oGt := fit_I0 (go := fun i j => .bl (decide (j < i))) (fun _ _ _ => .bl _) (by (intro x y R h; cases x <;> first | exact h.elim | (cases y <;> first | exact h.elim | exact ⟨_, _, rfl, rfl, h⟩)))
theorem fit_ge : Fit2 c (rI0 fun i j => .bl (decide (j ≤ i))) oGe := fit_I0 (go := fun i j => .bl (decide (j ≤ i))) (fun _ _ _ => .bl _) (by (intro x y R h; cases x <;> first | exact h.elim | (cases y <;> first | exact h.elim | exact ⟨_, _, rfl, rfl, h⟩)))
include hK in
theorem fit_add : Fit2 c (fun x y H Q => rI0 (fun i j => .int (i + j)) x y H Q ∨ (fun x y H Q => rCat x y H Q ∨ rCatA X.K x y H Q) x y H Q) oAdd := fun s σ H x y a b R Q rp hx hy ho w => by
  cases a <;> first
    | exact ho.elim
    | (cases b <;> first
        | exact ho.elim
        | (cases hx.intE; cases hy.intE; exact .inl ⟨_, _, rfl, rfl, w.same rp ho (.int _)⟩)
        | (obtain ⟨p, vs, rfl, h1, r1⟩ := Rl.lstE hx
           obtain ⟨q, us, rfl, h2, r2⟩ := Rl.lstE hy
           refine .inr (.inl ⟨p, q, vs, us, rfl, rfl, wo_sub _ _ _ _ h1, wo_sub _ _ _ _ h2, ?_, w.lst rp ho.2 (r1.app r2)⟩)
           rw [r1.len, r2.len]
           exact lim_le ho.1)
        | (obtain ⟨p, vs, rfl, h1, r1⟩ := Rl.tupE hx
           obtain ⟨q, us, rfl, h2, r2⟩ := Rl.tupE hy
           refine .inr (.inr ⟨p, q, vs, us, rfl, rfl, hK ▸ (wo_sub _ _).st h1, hK ▸ (wo_sub _ _).st h2, ?_, fun e => ?_, fun _ e => ?_, fun _ _ => w.tup rp ho.2 (r1.app r2)⟩)
           · rw [r1.len, r2.len]
             exact lim_le ho.1
           · subst e
             cases r1
             exact w.same rp ho.2 hy
           · subst e
             cases r2
             refine w.same rp ho.2 ?_
             rw [List.append_nil]
             exact hx))
include hK in
theorem fit_mul : Fit2 c (fun x y H Q => rI CMul (fun i j => .int (i * j)) x y H Q ∨ (fun x y H Q => rRep x y H Q ∨ (fun x y H Q => rRepT X.K x y H Q ∨ (fun x y H Q => ∃ l xs, x = .ref l ∧ y = .int 1 ∧ SqT X.K H l xs ∧ Q (.ref l) H) x y H Q) x y H Q) x y H Q) oMul := fun s σ H x y a b R Q rp hx hy ho w => by
  cases a <;> first
    | exact ho.elim
    | (cases b <;> first
        | exact ho.elim
        | (cases hx.intE; cases hy.intE; exact .inl ⟨_, _, rfl, rfl, ho.1, w.same rp ho.2 (.int _)⟩)
        | (obtain ⟨p, vs, rfl, h1, r1⟩ := Rl.lstE hx
           cases hy.intE
           obtain ⟨h0, h9, hl, hR⟩ := ho
           refine .inr (.inl ⟨p, _, vs, rfl, rfl, wo_sub _ _ _ _ h1, by omega, by omega, ?_, w.lst rp hR (r1.repl _)⟩)
           rw [r1.len]
           exact lim_le hl)
        | (obtain ⟨p, vs, rfl, h1, r1⟩ := Rl.tupE hx
           cases hy.intE
           obtain ⟨hne, h0, h9, hl, hR⟩ := ho
           rename_i k
           by_cases k1 : k = 1
           · subst k1
             refine .inr (.inr (.inr ⟨p, vs, rfl, rfl, hK ▸ (wo_sub _ _).st h1, w.same rp hR ?_⟩))
             have e : (List.replicate (1 : Int).toNat ‹List D›).flatten = ‹List D› := by
               show (List.replicate 1 _).flatten = _
               simp
             rw [e]
             exact hx
           · refine .inr (.inr (.inl ⟨p, _, vs, rfl, rfl, hK ▸ (wo_sub _ _).st h1, fun e => ?_, by omega, h9, by rw [r1.len]; exact hl, w.tup rp hR (r1.repl _)⟩))
             subst e
             cases r1
             exact hne rfl))
end
end DL
namespace DL
open PySem L2
open PySem.W (Frag)
mutual
def D.py : D → PyData
  | .non => .none
  | .bl b => .bool b
  | .int i => .int i
  | .str x => .str x
  | .lst xs => .list (pyA xs)
  | .tup xs => .tuple (pyA xs)
  | .dic => .dict []
  | .ins _ _ _ => .none
  | .exc _ _ _ => .none
def pyA : List D → List PyData
  | [] => []
  | d :: r => D.py d :: pyA r
end
mutual
def D.plain : D → Bool
  | .lst xs => plainA xs
  | .tup xs => plainA xs
  | .dic => false
  | .ins _ _ _ => false
  | .exc _ _ _ => false
  | .non => true
  | .bl _ => true
  | .int _ => true
  | .str _ => true
def plainA : List D → Bool
  | [] => true
  | d :: r => D.plain d && plainA r
end
mutual
theorem Rl.dp {K : Frag} {H : Hp} : ∀ (d : D) {v : V}, Rl K H v d → d.plain = true → Dp K H v d.py
  | .non, _, h, _ => by cases h; exact .non
  | .bl b, _, h, _ => by cases h; exact .bl b
  | .int i, _, h, _ => by cases h; exact .int i
  | .str x, _, h, _ => by cases h; exact .str x
  | .lst xs, _, h, p => by
    cases h with
    | lst h r => exact .lst (SqL.of h) (RlA.dp xs r p)
  | .tup xs, _, h, p => by
    cases h with
    | tup h r => exact .tup h (RlA.dp xs r p)
  | .dic, _, _, p => by cases p
  | .ins _ _ _, _, _, p => by cases p
  | .exc _ _ _, _, _, p => by cases p
theorem RlA.dp {K : Frag} {H : Hp} : ∀ (ds : List D) {vs : List V}, RlA K H vs ds → plainA ds = true → DpAll K H vs (pyA ds)
  | [], _, h, _ => by cases h; exact .nil
  | d :: r, _, h, p => by
    have p' := Bool.and_eq_true_iff.mp p
    cases h with
    | cons h q => exact .cons (Rl.dp d h p'.1) (RlA.dp r q p'.2)
end
def D.okE (d : D) : Bool := d.plain && SeqAt.shaped d.py
abbrev oEq : O2 := fun x y Q => match x, y with
  | .str a, .str b => Q (.bl (decide (a = b)))
  | x, y => x.okE = true ∧ y.okE = true ∧ Q (.bl (PyData.eqv x.py y.py))
abbrev oNe : O2 := fun x y Q => match x, y with
  | .str a, .str b => Q (.bl (!decide (a = b)))
  | x, y => x.okE = true ∧ y.okE = true ∧ Q (.bl (!PyData.eqv x.py y.py))
theorem Rl.strE {K : Frag} {H : Hp} {v : V} {x : PySem.Str} (h : Rl K H v (.str x)) : v = .str x := by
  cases h; rfl
theorem str_dec (a b : PySem.Str) : decide (V.str a = V.str b) = decide (a = b) := by
  by_cases e : a = b
  · subst e; simp
  · have : ¬ V.str a = V.str b := fun q => e (V.str.inj q)
    rw [decide_eq_false this, decide_eq_false e]
theorem plain_ints : ∀ ns : List Int, plainA (ns.map D.int) = true
  | [] => rfl
  | _ :: r => plain_ints r
theorem py_ints : ∀ ns : List Int, pyA (ns.map D.int) = ns.map PyData.int
  | [] => rfl
  | n :: r => congrArg (PyData.int n :: ·) (py_ints r)
theorem lay_ints : ∀ ns : List Int, PyData.canLayAll0 (ns.map PyData.int) = true
  | [] => rfl
  | n :: r => by
    show (PyData.canLay0 (.int n) && PyData.canLayAll0 (r.map PyData.int)) = true
    rw [lay_ints r]
    rfl
theorem depth_ints : ∀ ns : List Int, PyData.depthAll (ns.map PyData.int) = 0
  | [] => rfl
  | n :: r => by
    show max (PyData.depth (.int n)) (PyData.depthAll (r.map PyData.int)) = 0
    rw [depth_ints r]
    rfl
theorem eqv_ints : ∀ ns ms : List Int, PyData.eqvAll (ns.map PyData.int) (ms.map PyData.int) = decide (ns = ms)
  | [], [] => rfl
  | [], _ :: _ => rfl
  | _ :: _, [] => rfl
  | n :: r, m :: q => by
    show (PyData.eqv (.int n) (.int m) && PyData.eqvAll (r.map PyData.int) (q.map PyData.int)) = _
    rw [eqv_ints r q]
    show ((n == m) && decide (r = q)) = decide (n :: r = m :: q)
    by_cases h1 : n = m
    · subst h1
      by_cases h2 : r = q
      · simp [h2]
      · simp [h2]
    · have e : (n == m) = false := by simpa using h1
      rw [e]
      simp [h1]
theorem okE_tupI (ns : List Int) : (D.tup (ns.map D.int)).okE = true := by
  show (plainA (ns.map D.int) && (PyData.canLayAll0 (pyA (ns.map D.int)) && decide (PyData.depthAll (pyA (ns.map D.int)) + 1 ≤ 64))) = true
  rw [plain_ints, py_ints, lay_ints, depth_ints]
  rfl
theorem okE_lstI (ns : List Int) : (D.lst (ns.map D.int)).okE = true := okE_tupI ns
theorem eqv_tupI (ns ms : List Int) : PyData.eqv (D.tup (ns.map D.int)).py (D.tup (ms.map D.int)).py = decide (ns = ms) := by
  show PyData.eqvAll (pyA _) (pyA _) = _
  rw [py_ints, py_ints, eqv_ints]
theorem eqv_lstI (ns ms : List Int) : PyData.eqv (D.lst (ns.map D.int)).py (D.lst (ms.map D.int)).py = decide (ns = ms) := eqv_tupI ns ms
def D.flat : D → Bool
  | .non => true
  | .bl _ => true
  | .int _ => true
  | .str _ => true
  | _ => false
def D.v : D → V
  | .non => .non
  | .bl b => .bl b
  | .int i => .int i
  | .str x => .str x
  | _ => .non
theorem Rl.flat {K : Frag} {H : Hp} {v : V} {d : D} (h : Rl K H v d) (f : d.flat = true) : v = d.v ∧ flatV v = true := by
  cases h <;> first | exact ⟨rfl, rfl⟩ | cases f
theorem RlA.flat {K : Frag} {H : Hp} : ∀ {vs : List V} {ds : List D}, RlA K H vs ds → ds.all D.flat = true → vs = ds.map D.v ∧ vs.all flatV = true
  | _, _, .nil, _ => ⟨rfl, rfl⟩
  | _, _, .cons h r, f => by
    rw [List.all_cons] at f
    have f' := Bool.and_eq_true_iff.mp f
    obtain ⟨e1, a1⟩ := h.flat f'.1
    obtain ⟨e2, a2⟩ := RlA.flat r f'.2
    exact ⟨by rw [List.map_cons, ← e1, ← e2], by rw [List.all_cons, a1, a2]; rfl⟩
def D.items : D → Option (List D)
  | .lst xs => some xs
  | .tup xs => some xs
  | _ => none
abbrev oIn : O2 := fun x y Q => x.flat = true ∧ ∃ ds, y.items = some ds ∧ ds.all D.flat = true ∧ Q (.bl (inV x.v (ds.map D.v)))
abbrev oNin : O2 := fun x y Q => x.flat = true ∧ ∃ ds, y.items = some ds ∧ ds.all D.flat = true ∧ Q (.bl (!inV x.v (ds.map D.v)))
theorem Rl.items {K : Frag} {H : Hp} {v : V} {d : D} {ds : List D} (h : Rl K H v d) (e : d.items = some ds) : ∃ a vs, v = .ref a ∧ (SqL K H a vs ∨ SqT K H a vs) ∧ RlA K H vs ds := by
  cases d <;> first | cases e | skip
  · obtain ⟨a, vs, e, h, r⟩ := h.lstE
    exact ⟨a, vs, e, .inl (SqL.of h), r⟩
  · obtain ⟨a, vs, e, h, r⟩ := h.tupE
    exact ⟨a, vs, e, .inr h, r⟩
theorem sq_all {K : Frag} {A B : Hp} (x : Sub A B) {a : Addr} {vs : List V} (h : SqL K A a vs ∨ SqT K A a vs) : SqL K B a vs ∨ SqT K B a vs := h.elim (fun h => .inl (x.sl h)) fun h => .inr (x.st h)
section
variable {X : Cx} {c : C} (hK : c.K = X.K)
include hK
theorem fit_eq : Fit2 c (fun x y H Q => rEq x y H Q ∨ rEqD X.K x y H Q) oEq := fun s σ H x y a b R Q rp hx hy ho w => by
  unfold oEq at ho
  split at ho
  · cases hx.strE
    cases hy.strE
    exact .inl ⟨rfl, by rw [str_dec]; exact w.same rp ho (.bl _)⟩
  · obtain ⟨h1, h2, ho⟩ := ho
    have p1 := Bool.and_eq_true_iff.mp h1
    have p2 := Bool.and_eq_true_iff.mp h2
    exact .inr ⟨_, _, hK ▸ Rl.dp _ hx.all p1.1, hK ▸ Rl.dp _ hy.all p2.1, p1.2, p2.2, w.same rp ho (.bl _)⟩
theorem fit_ne : Fit2 c (fun x y H Q => rNe x y H Q ∨ rNeD X.K x y H Q) oNe := fun s σ H x y a b R Q rp hx hy ho w => by
  unfold oNe at ho
  split at ho
  · cases hx.strE
    cases hy.strE
    exact .inl ⟨rfl, by rw [str_dec]; exact w.same rp ho (.bl _)⟩
  · obtain ⟨h1, h2, ho⟩ := ho
    have p1 := Bool.and_eq_true_iff.mp h1
    have p2 := Bool.and_eq_true_iff.mp h2
    exact .inr ⟨_, _, hK ▸ Rl.dp _ hx.all p1.1, hK ▸ Rl.dp _ hy.all p2.1, p1.2, p2.2, w.same rp ho (.bl _)⟩
theorem fit_in : Fit2 c (rIn X.K false) oIn := fun s σ H x y a b R Q rp hx hy ⟨h1, ds, h2, h3, ho⟩ w => by
  obtain ⟨e1, f1⟩ := hx.flat h1
  obtain ⟨p, vs, rfl, hs, r⟩ := hy.items h2
  obtain ⟨e2, f2⟩ := r.flat h3
  refine ⟨p, vs, rfl, hK ▸ sq_all (wo_sub _ _) hs, f1, f2, ?_⟩
  rw [e1, e2]
  exact w.same rp ho (.bl _)
theorem fit_nin : Fit2 c (rIn X.K true) oNin := fun s σ H x y a b R Q rp hx hy ⟨h1, ds, h2, h3, ho⟩ w => by
  obtain ⟨e1, f1⟩ := hx.flat h1
  obtain ⟨p, vs, rfl, hs, r⟩ := hy.items h2
  obtain ⟨e2, f2⟩ := r.flat h3
  refine ⟨p, vs, rfl, hK ▸ sq_all (wo_sub _ _) hs, f1, f2, ?_⟩
  rw [e1, e2]
  exact w.same rp ho (.bl _)
abbrev oIx : O2 := fun x y Q => match y with
  | .int i => ∃ ds d, x.items = some ds ∧ atI ds i = some d ∧ Q d
  | _ => False
omit hK in
theorem at_rl {K : Frag} {A : Hp} {vs : List V} {ds : List D} {i : Int} {d : D} (r : RlA K A vs ds) (h : atI ds i = some d) : ∃ v, atI vs i = some v ∧ Rl K A v d := by
  unfold atI at h ⊢
  rw [r.len]
  cases e : ixN ds.length i with
  | none => rw [e] at h; cases h
  | some j =>
    rw [e] at h
    exact r.getD (i := j) h
theorem fit_ix : Fit2 c (rIx X.K) oIx := fun s σ H x y a b R Q rp hx hy ho w => by
  cases b <;> first | exact ho.elim | skip
  rename_i i
  cases hy.intE
  obtain ⟨ds, d, h1, h2, hR⟩ := ho
  obtain ⟨p, vs, rfl, hs, r⟩ := hx.items h1
  obtain ⟨v, h3, h4⟩ := at_rl r h2
  rcases sq_all (wo_sub _ _) hs with hs | hs
  · exact .inl ⟨p, vs, i, v, rfl, rfl, hK ▸ hs, h3, w.same rp hR h4⟩
  · exact .inr (.inl ⟨p, vs, i, v, rfl, rfl, hK ▸ hs, h3, w.same rp hR h4⟩)
def cutD (xs : List D) (lo hi : Option Int) : List D := (xs.drop (HT.sIx xs.length 0 lo)).take (HT.sIx xs.length xs.length hi - HT.sIx xs.length 0 lo)
omit hK in
theorem cut_rl {K : Frag} {A : Hp} {vs : List V} {ds : List D} (r : RlA K A vs ds) (lo hi : Option Int) : RlA K A (cutV vs lo hi) (cutD ds lo hi) := by
  unfold cutV cutD
  rw [r.len]
  exact (r.drop _).take _
abbrev oSl (x : D) (lo hi : Option Int) (Q : D → Prop) : Prop := match x with
  | .lst xs => Q (.lst (cutD xs lo hi))
  | .tup xs => Q (.tup (cutD xs lo hi))
  | _ => False
theorem fit_sl (s : S) (σ : L2.St) (H : Hp) (x : V) (a : D) (lo hi : Option Int) (R : D → Prop) (Q : VK) (rp : Rep c s σ H) (hx : Rl c.K (c.hid s.X H) x a) (ho : oSl a lo hi R) (w : Wi c s σ H R Q) :
    rSlL X.K x lo hi H Q ∨ rSlA X.K x lo hi H Q := by
  cases a <;> first | exact ho.elim | skip
  · obtain ⟨p, vs, rfl, h1, r⟩ := hx.lstE
    exact .inl ⟨p, vs, rfl, hK ▸ SqL.of (wo_sub _ _ _ _ h1), w.lst rp ho (cut_rl r lo hi)⟩
  · obtain ⟨p, vs, rfl, h1, r⟩ := hx.tupE
    refine .inr ⟨p, vs, rfl, hK ▸ (wo_sub _ _).st h1, fun e => ?_, fun _ => w.tup rp ho (cut_rl r lo hi)⟩
    refine w.same rp ho ?_
    have e1 := e.1
    have e2 := e.2
    rw [r.len] at e1 e2
    unfold cutD
    rw [e1, e2, Nat.sub_zero, List.drop_zero, List.take_length]
    exact hx
end
def D.tru : D → Option Bool
  | .non => some false
  | .bl b => some b
  | .int i => some (i != 0)
  | .lst xs => some (!xs.isEmpty)
  | .tup xs => some (!xs.isEmpty)
  | .dic => some false
  | _ => none
abbrev dTru (t : DE) : DT := fun s Q => t s fun d k => ∃ b, d.tru = some b ∧ Q b k
abbrev dTB (t : DE) : DT := fun s Q => t s fun d k => ∃ b, d = .bl b ∧ Q b k
abbrev dAnd (t u : DT) : DT := fun s Q => t s fun b k => if b = true then u (s.at k) Q else Q false k
abbrev dOr (t u : DT) : DT := fun s Q => t s fun b k => if b = true then Q true k else u (s.at k) Q
abbrev dNot (t : DT) : DT := fun s Q => t s fun b k => Q (!b) k
abbrev dIf (t : DT) (a b : DE) : DE := fun s Q => t s fun x k => if x = true then a (s.at k) Q else b (s.at k) Q
abbrev dAndV (t u : DE) : DE := fun s Q => t s fun d k => ∃ b, d = .bl b ∧ if b = true then u (s.at k) Q else Q (.bl false) k
abbrev dNotV (t : DE) : DE := fun s Q => t s fun d k => ∃ b, d = .bl b ∧ Q (.bl (!b)) k
theorem isEmpty_rl {K : Frag} {A : Hp} {vs : List V} {ds : List D} (r : RlA K A vs ds) : vs.isEmpty = ds.isEmpty := by
  cases r <;> rfl
section
variable {X : Cx} {c : C}
theorem pt_tru (hK : c.K = X.K) {a : Expr} {t : DE} (h : PE X a (LE c t)) (he : ∀ whole, isTrue a X.env whole = (do let v ← whole; standAt a.pos; holding [v] (truthy v)) := by intro _; rfl) : PT X a (LT c (dTru t)) :=
  (pt_truth h he).weak fun σ H Q ⟨s, R, rp, q, f⟩ => by
    refine ⟨s, _, rp, q, fun d k ⟨b, hb, hR⟩ v H' r1 a1 e1 => ⟨b, ?_, f b k hR H' r1 a1⟩⟩
    cases d <;> first | cases hb | skip
    · cases e1.nonE; rfl
    · cases e1.blE; rfl
    · cases e1.intE; rfl
    · obtain ⟨p, vs, rfl, h1, r⟩ := e1.lstE
      exact .inl ⟨vs, hK ▸ SqL.of (wo_sub _ _ _ _ h1), by rw [isEmpty_rl r]⟩
    · obtain ⟨p, vs, rfl, h1, r⟩ := e1.tupE
      exact .inr (.inl ⟨vs, hK ▸ (wo_sub _ _).st h1, by rw [isEmpty_rl r]⟩)
    · cases e1 with
      | dic h => exact .inr (.inr ⟨_, wo_sub _ _ _ _ h, rfl⟩)
theorem LT.ofB {t : DE} {σ : L2.St} {H : Hp} {Q : Bool → Hp → Prop} (h : LT c (dTB t) σ H Q) : LE c t σ H fun x H1 => ∃ b, x = .bl b ∧ Q b H1 := by
  obtain ⟨s, R, rp, q, f⟩ := h
  refine ⟨s, _, rp, q, fun d k ⟨b, hb, hR⟩ v H' r1 a1 e1 => ?_⟩
  subst hb
  cases e1.blE
  exact ⟨b, rfl, f b k hR H' r1 a1⟩
theorem pd_cmp {a b : Expr} {op : CmpOp} {pos : Pos} {ta tb : DE} {r : R2} {o : O2} (ho : OpR X (compareOp op) r) (f : Fit2 c r o) (ha : PE X a (LE c ta)) (hb : PE X b (LE c tb)) (hm : behindInMarks op b = false := by first | exact nomark _ | rfl) :
    PE X (.Compare a [op] [b] pos) (LE c (dOp o ta tb)) := (pe_cmpR ho ha hb hm).weak fun σ H Q h => LE.op f σ H Q h
theorem ptd_cmp {a b : Expr} {op : CmpOp} {pos : Pos} {ta tb : DE} {r : R2} {o : O2} (ho : OpR X (compareOp op) r) (f : Fit2 c r o) (ha : PE X a (LE c ta)) (hb : PE X b (LE c tb)) (hm : behindInMarks op b = false := by first | exact nomark _ | rfl) :
    PT X (.Compare a [op] [b] pos) (LT c (dTB (dOp o ta tb))) := (pt_cmpR ho ha hb hm).weak fun σ H Q h => LE.op f σ H _ h.ofB
abbrev dCh (o o' : O2) (a b e : DE) : DE := fun s Q => a s fun x k => b (s.at k) fun y k1 => o x y fun z => ∃ q, z = .bl q ∧ if q = true then e (s.at k1) fun w k2 => o' y w fun u => Q u k2 else Q (.bl false) k1
theorem LE.chain {r r' : R2} {o o' : O2} {a b e : DE} (f : Fit2 c r o) (f' : Fit2 c r' o') (σ : L2.St) (H : Hp) (Q : VK) (h : LE c (dCh o o' a b e) σ H Q) : tChain r r' (LE c a) (LE c b) (LE c e) σ H Q := by
  obtain ⟨s, R, rp, h, fin⟩ := h
  refine ⟨s, _, rp, h, fun x k h1 v H1 r1 a1 e1 => ?_⟩
  refine ⟨s.at k, _, r1, h1, fun y k2 h2 u H2 r2 a2 e2 => ?_⟩
  refine f (s.at k2) σ H2 v u x y _ _ r2 (e1.mono a2.sub) e2 h2 fun z ⟨q, hq, hz⟩ w H3 r3 a3 e3 => ?_
  subst hq
  cases e3.blE
  refine ⟨q, rfl, ?_⟩
  cases q with
  | false => exact fin _ k2 hz _ H3 r3 ((a1.trans a2).trans a3) (.bl false)
  | true =>
    refine ⟨s.at k2, _, r3, hz, fun d k4 h4 w4 H4 r4 a4 e4 => ?_⟩
    exact f' (s.at k4) σ H4 u w4 y d _ Q r4 ((e2.mono a3.sub).mono a4.sub) e4 h4 fun z hz w H5 r5 a5 e5 => fin z k4 hz w H5 r5 ((((a1.trans a2).trans a3).trans a4).trans a5) e5
theorem pd_chain {a b e : Expr} {op op' : CmpOp} {pos : Pos} {ta tb te : DE} {r r' : R2} {o o' : O2} (ho : OpR X (compareOp op) r) (f : Fit2 c r o) (ho' : OpR X (compareOp op') r') (f' : Fit2 c r' o') (ha : PE X a (LE c ta)) (hb : PE X b (LE c tb)) (he : PE X e (LE c te)) (hm : lastMarks [op, op'] [b, e] = false := by rfl) :
    PE X (.Compare a [op, op'] [b, e] pos) (LE c (dCh o o' ta tb te)) := (pe_chain ho ho' ha hb he hm).weak fun σ H Q h => LE.chain f f' σ H Q h
theorem pwd_and1 {a : Expr} {pos : Pos} {t : DT} (ha : PT X a (LT c t)) : PW X (.BoolOp .And [a] pos) (LT c t) := pw_and1 ha
theorem pwd_or1 {a : Expr} {pos : Pos} {t : DT} (ha : PT X a (LT c t)) : PW X (.BoolOp .Or [a] pos) (LT c t) := pw_or1 ha
theorem pwd_and {a b : Expr} {rest : List Expr} {pos : Pos} {t u : DT} (ha : PT X a (LT c t)) (hb : PW X (.BoolOp .And (b :: rest) pos) (LT c u)) : PW X (.BoolOp .And (a :: b :: rest) pos) (LT c (dAnd t u)) :=
  (pw_and ha hb).weak fun σ H Q ⟨s, R, rp, q, f⟩ => by
    refine ⟨s, _, rp, q, fun b k hb H1 r1 a1 => ?_⟩
    cases b with
    | true => exact ⟨s.at k, R, r1, hb, fun b' k' hR H2 r2 a2 => f b' k' hR H2 r2 (a1.trans a2)⟩
    | false => exact f false k hb H1 r1 a1
theorem pwd_or {a b : Expr} {rest : List Expr} {pos : Pos} {t u : DT} (ha : PT X a (LT c t)) (hb : PW X (.BoolOp .Or (b :: rest) pos) (LT c u)) : PW X (.BoolOp .Or (a :: b :: rest) pos) (LT c (dOr t u)) :=
  (pw_or ha hb).weak fun σ H Q ⟨s, R, rp, q, f⟩ => by
    refine ⟨s, _, rp, q, fun b k hb H1 r1 a1 => ?_⟩
    cases b with
    | false => exact ⟨s.at k, R, r1, hb, fun b' k' hR H2 r2 a2 => f b' k' hR H2 r2 (a1.trans a2)⟩
    | true => exact f true k hb H1 r1 a1
theorem ptd_not {a : Expr} {pos : Pos} {t : DT} (ha : PT X a (LT c t)) : PT X (.UnaryOp .Not a pos) (LT c (dNot t)) :=
  (pt_not ha).weak fun σ H Q ⟨s, R, rp, q, f⟩ => ⟨s, _, rp, q, fun b k hb H1 r1 a1 => f _ k hb H1 r1 a1⟩
theorem pd_if {t a b : Expr} {pos : Pos} {tt : DT} {ta tb : DE} (ht : PT X t (LT c tt)) (ha : PE X a (LE c ta)) (hb : PE X b (LE c tb)) : PE X (.IfExp t a b pos) (LE c (dIf tt ta tb)) :=
  (pe_ifExp ht ha hb).weak fun σ H Q ⟨s, R, rp, q, f⟩ => by
    refine ⟨s, _, rp, q, fun b k hb H1 r1 a1 => ?_⟩
    cases b with
    | true => exact ⟨s.at k, R, r1, hb, fun d k' hR v H2 r2 a2 e => f d k' hR v H2 r2 (a1.trans a2) e⟩
    | false => exact ⟨s.at k, R, r1, hb, fun d k' hR v H2 r2 a2 e => f d k' hR v H2 r2 (a1.trans a2) e⟩
theorem pd_one {a : Expr} {op} {pos : Pos} {t : DE} (h : PE X a (LE c t)) : PE X (.BoolOp op [a] pos) (LE c t) := pe_one h
theorem pd_andV {a b : Expr} {rest : List Expr} {pos : Pos} {t u : DE} (ha : PE X a (LE c t)) (hb : PE X (.BoolOp .And (b :: rest) pos) (LE c u)) : PE X (.BoolOp .And (a :: b :: rest) pos) (LE c (dAndV t u)) :=
  (pe_and ha hb).weak fun σ H Q ⟨s, R, rp, q, f⟩ => by
    refine ⟨s, _, rp, q, fun d k ⟨b, hd, hb⟩ v H1 r1 a1 e1 => ?_⟩
    subst hd
    cases e1.blE
    refine ⟨b, rfl, ?_⟩
    cases b with
    | true => exact ⟨s.at k, R, r1, hb, fun d k' hR v H2 r2 a2 e => f d k' hR v H2 r2 (a1.trans a2) e⟩
    | false => exact f _ k hb _ H1 r1 a1 (.bl _)
theorem pd_notV {a : Expr} {pos : Pos} {t : DE} (ha : PE X a (LE c t)) : PE X (.UnaryOp .Not a pos) (LE c (dNotV t)) :=
  (pe_not ha).weak fun σ H Q ⟨s, R, rp, q, f⟩ => by
    refine ⟨s, _, rp, q, fun d k ⟨b, hd, hb⟩ v H1 r1 a1 e1 => ?_⟩
    subst hd
    cases e1.blE
    exact ⟨b, rfl, f _ k hb _ H1 r1 a1 (.bl _)⟩
end
abbrev dNil : DA := fun s Q => Q [] s.k
abbrev dCons (t : DE) (u : DA) : DA := fun s Q => t s fun d k => u (s.at k) fun ds k' => Q (d :: ds) k'
abbrev dTup (t : DA) : DE := fun s Q => t s fun ds k => ds.length ≤ lim ∧ Q (.tup ds) k
abbrev DO' := S → (Option Int → Nat → Prop) → Prop
def LO (c : C) (t : DO') : TO := fun σ H Q => ∃ s R, Rep c s σ H ∧ t s R ∧ ∀ b k, R b k → ∀ H', Rep c (s.at k) σ H' → AdvE c s.X H H' → Q b H'
abbrev dON : DO' := fun s Q => Q none s.k
abbrev dOS (t : DE) : DO' := fun s Q => t s fun d k => ∃ i, d = .int i ∧ Q (some i) k
abbrev dSl (t : DE) (l h : DO') : DE := fun s Q => t s fun x k => l (s.at k) fun lo k1 => h (s.at k1) fun hi k2 => oSl x lo hi fun z => Q z k2
section
variable {X : Cx} {c : C}
theorem pad_nil : PA X [] (LA c dNil) := pa_nil.weak fun σ H Q ⟨s, R, rp, q, f⟩ => f _ _ q [] H rp AdvE.refl .nil
theorem pad_cons {e : Expr} {es : List Expr} {t : DE} {u : DA} (ha : PE X e (LE c t)) (hr : PA X es (LA c u)) (hs : starEach (e :: es) X.env = (false, eval e X.env) :: starEach es X.env := by rfl) : PA X (e :: es) (LA c (dCons t u)) :=
  (pa_cons ha hr hs).weak fun σ H Q ⟨s, R, rp, q, f⟩ =>
    ⟨s, _, rp, q, fun d k hd v H1 r1 a1 e1 => ⟨s.at k, _, r1, hd, fun ds k2 h2 vs H2 r2 a2 e2 => f _ k2 h2 _ H2 r2 (a1.trans a2) (.cons (e1.mono a2.sub) e2)⟩⟩
theorem pd_tup {es : List Expr} {x1} {pos : Pos} {t : DA} (h : PA X es (LA c t)) : PE X (.Tuple es x1 pos) (LE c (dTup t)) :=
  (pe_tup h).weak fun σ H Q ⟨s, R, rp, q, f⟩ => by
    refine ⟨s, _, rp, q, fun ds k ⟨hl, hR⟩ vs H1 r1 a1 e1 => ⟨by rw [e1.len]; exact lim_le hl, ?_⟩⟩
    exact Wi.tup (c := c) (s := s.at k) (σ := σ) (R := fun d => d = .tup ds) (fun d hd v H' r' a' e' => by subst hd; exact f _ k hR v H' r' (a1.trans a') e') r1 rfl e1
theorem pd_bin {a b : Expr} {op : Operator} {pos : Pos} {ta tb : DE} {r : R2} {o : O2} (ho : OpR X (binaryOp op) r) (f : Fit2 c r o) (ha : PE X a (LE c ta)) (hb : PE X b (LE c tb)) : PE X (.BinOp a op b pos) (LE c (dOp o ta tb)) :=
  (pe_op ho ha hb).weak fun σ H Q h => LE.op f σ H Q h
theorem pd_add (hK : c.K = X.K) {a b : Expr} {pos : Pos} {ta tb : DE} (ha : PE X a (LE c ta)) (hb : PE X b (LE c tb)) : PE X (.BinOp a .Add b pos) (LE c (dOp oAdd ta tb)) := pd_bin (OpR.or op_add (OpR.or op_cat op_catA)) (fit_add hK) ha hb
theorem pd_mul (hK : c.K = X.K) {a b : Expr} {pos : Pos} {ta tb : DE} (ha : PE X a (LE c ta)) (hb : PE X b (LE c tb)) : PE X (.BinOp a .Mult b pos) (LE c (dOp oMul ta tb)) := pd_bin (OpR.or op_mul (OpR.or op_rep (OpR.or op_repT op_rep1))) (fit_mul hK) ha hb
theorem pd_sub {a b : Expr} {pos : Pos} {ta tb : DE} (ha : PE X a (LE c ta)) (hb : PE X b (LE c tb)) : PE X (.BinOp a .Sub b pos) (LE c (dOp oSub ta tb)) := pd_bin op_sub fit_sub ha hb
theorem pd_div {a b : Expr} {pos : Pos} {ta tb : DE} (ha : PE X a (LE c ta)) (hb : PE X b (LE c tb)) : PE X (.BinOp a .FloorDiv b pos) (LE c (dOp oDiv ta tb)) := pd_bin op_fdivW fit_div ha hb
theorem pd_mod {a b : Expr} {pos : Pos} {ta tb : DE} (ha : PE X a (LE c ta)) (hb : PE X b (LE c tb)) : PE X (.BinOp a .Mod b pos) (LE c (dOp oMod ta tb)) := pd_bin op_mod fit_mod ha hb
theorem pd_pow {a b : Expr} {pos : Pos} {ta tb : DE} (ha : PE X a (LE c ta)) (hb : PE X b (LE c tb)) : PE X (.BinOp a .Pow b pos) (LE c (dOp oPow ta tb)) := pd_bin op_pow fit_pow ha hb
theorem pd_ix (hK : c.K = X.K) {a b : Expr} {pos : Pos} {ta tb : DE} (ha : PE X a (LE c ta)) (hb : PE X b (LE c tb)) (hs : PlainIx b := by exact fun _ _ => rfl) : PE X (.Subscript a b pos) (LE c (dOp oIx ta tb)) :=
  (pe_ix ix_seq ha hb hs).weak fun σ H Q h => LE.op (fit_ix hK) σ H Q h
theorem pod_none : PO X none (LO c dON) := ⟨fun p s σ H Q I ⟨st, R, rp, q, f⟩ => po_none.run p s σ H Q I (f _ _ q H rp AdvE.refl)⟩
theorem pod_some {e : Expr} {t : DE} (h : PE X e (LE c t)) : PO X (some e) (LO c (dOS t)) := ⟨fun p s σ H Q I ⟨st, R, rp, q, f⟩ => (po_some h).run p s σ H Q I
  ⟨st, _, rp, q, fun d k ⟨i, hd, hR⟩ v H1 r1 a1 e1 => by
    subst hd
    exact ⟨i, e1.intE, f _ k hR H1 r1 a1⟩⟩⟩
theorem pd_slice (hK : c.K = X.K) {e : Expr} {lo hi : Option Expr} {p2 pos : Pos} {t : DE} {tl th : DO'} (he : PE X e (LE c t)) (hl : PO X lo (LO c tl)) (hh : PO X hi (LO c th)) : PE X (.Subscript e (.Slice lo hi none p2) pos) (LE c (dSl t tl th)) :=
  (pe_slice (SlR.or sl_list sl_tupA) he hl hh).weak fun σ H Q ⟨s, R, rp, q, f⟩ => by
    refine ⟨s, _, rp, q, fun x k h1 v H1 r1 a1 e1 => ⟨s.at k, _, r1, h1, fun l k2 h2 H2 r2 a2 => ⟨s.at k2, _, r2, h2, fun u k3 h3 H3 r3 a3 => ?_⟩⟩⟩
    exact fit_sl hK (s.at k3) σ H3 v x l u _ Q r3 ((e1.mono a2.sub).mono a3.sub) h3 fun z hz w H4 r4 a4 e4 => f z k3 hz w H4 r4 (((a1.trans a2).trans a3).trans a4) e4
end
end DL
namespace DL
open PySem L2
open PySem.W (Frag)
def Yl (c : C) (s0 : S) (Hs : Hp) (J : It) (items : List D) : Prop := ∀ (i : Nat) (s : S) (σ : L2.St) (H : Hp), Rep c s σ H → Adv c s0 Hs s H →
  (items.length ≤ i → J.stop i H) ∧ ∀ d, items[i]? = some d → J.go i H ∧ ∀ x H', J.yld i H x H' → Rep c s σ H' ∧ AdvE c s.X H H' ∧ Rl c.K (c.hid s.X H') x d
abbrev DI := S → (List D → Nat → Prop) → Prop
def LI (c : C) (t : DI) : TI := fun σ H R => ∃ s Z, Rep c s σ H ∧ t s Z ∧ ∀ items k, Z items k → ∀ J H', Rep c (s.at k) σ H' → AdvE c s.X H H' → Yl c s H' J items → R J H'
abbrev iSeq (t : DE) : DI := fun s Q => t s fun d k => ∃ ds, d.items = some ds ∧ Q ds k
abbrev iLst (t : DE) : DI := fun s Q => t s fun d k => ∃ ds, d = .lst ds ∧ Q ds k
abbrev iTp (t : DE) : DI := fun s Q => t s fun d k => ∃ ds, d = .tup ds ∧ Q ds k
@[reducible] def rngD (lo : Int) (n : Nat) : List D := (List.range n).map fun (i : Nat) => .int (lo + i)
abbrev iR1 (t : DE) : DI := fun s Q => t s fun d k => ∃ j, d = .int j ∧ -(2 ^ 62) ≤ j ∧ j < 2 ^ 62 ∧ Q (rngD 0 j.toNat) k
abbrev iR2 (t u : DE) : DI := fun s Q => t s fun d k => u (s.at k) fun e k' => ∃ i j, d = .int i ∧ e = .int j ∧ (-(2 ^ 62) ≤ i ∧ i < 2 ^ 62 ∧ -(2 ^ 62) ≤ j ∧ j < 2 ^ 62) ∧ Q (rngD i (j - i).toNat) k'
theorem rngD_at {lo : Int} {n i : Nat} {d : D} (h : (rngD lo n)[i]? = some d) : i < n ∧ d = .int (lo + i) := by
  unfold rngD at h
  rw [List.getElem?_map] at h
  by_cases hi : i < n
  · rw [List.getElem?_range hi] at h
    exact ⟨hi, (Option.some.inj h).symm⟩
  · rw [List.getElem?_eq_none (by rw [List.length_range]; omega)] at h
    cases h
theorem rngD_len (lo : Int) (n : Nat) : (rngD lo n).length = n := by unfold rngD; rw [List.length_map, List.length_range]
theorem Yl.range {c : C} {s0 : S} {Hs : Hp} {lo : Int} {n : Nat} : Yl c s0 Hs (Itr lo n) (rngD lo n) := fun i s σ H rp _ => by
  refine ⟨fun h => by rw [rngD_len] at h; exact h, fun d hd => ?_⟩
  obtain ⟨hi, rfl⟩ := rngD_at hd
  refine ⟨hi, fun x H' ⟨e1, e2⟩ => ?_⟩
  subst e1 e2
  exact ⟨rp, AdvE.refl, .int _⟩
theorem Yl.list {c : C} {s0 : S} {Hs : Hp} {K : Frag} {a : Addr} {vs : List V} {ds : List D} (hK : c.K = K) (h : c.hid s0.X Hs a = some (.lst vs)) (r : RlA c.K (c.hid s0.X Hs) vs ds) : Yl c s0 Hs (Itl K a) ds := fun i s σ H rp ad => by
  have h1 : SqL K H a vs := SqL.of (wo_sub _ _ _ _ (ad _ _ h))
  have r1 := r.mono ad
  refine ⟨fun hl => ⟨vs, h1, by rw [r.len]; exact hl⟩, fun d hd => ?_⟩
  obtain ⟨v, hv, hr⟩ := r1.getD hd
  refine ⟨⟨vs, v, h1, hv⟩, fun x H' ⟨e1, e2⟩ => ?_⟩
  subst e1
  have e3 := e2 vs h1
  rw [hv] at e3
  cases e3
  exact ⟨rp, AdvE.refl, hr⟩
theorem Yl.tup {c : C} {s0 : S} {Hs : Hp} {K : Frag} {a : Addr} {vs : List V} {ds : List D} (hK : c.K = K) (h : SqT c.K (c.hid s0.X Hs) a vs) (r : RlA c.K (c.hid s0.X Hs) vs ds) : Yl c s0 Hs (Itt K a) ds := fun i s σ H rp ad => by
  subst hK
  have h1 : SqT c.K H a vs := (ad.trans (wo_sub _ _)).st h
  have r1 := r.mono ad
  refine ⟨fun hl => ⟨vs, h1, by rw [r.len]; exact hl⟩, fun d hd => ?_⟩
  obtain ⟨v, hv, hr⟩ := r1.getD hd
  refine ⟨⟨vs, v, h1, hv⟩, fun x H' ⟨e1, e2⟩ => ?_⟩
  subst e1
  have e3 := e2 vs h1
  rw [hv] at e3
  cases e3
  exact ⟨rp, AdvE.refl, hr⟩
@[reducible] def pairD (as bs : List D) : List D := (as.zip bs).map fun p => .tup [p.1, p.2]
@[reducible] def enumD (n : Nat) : List D → List D
  | [] => []
  | d :: r => .tup [.int n, d] :: enumD (n + 1) r
theorem enum_at : ∀ {ds : List D} {n i : Nat} {d : D}, (enumD n ds)[i]? = some d → ∃ e, ds[i]? = some e ∧ d = .tup [.int ((n + i : Nat) : Int), e]
  | [], _, _, _, h => by cases h
  | e :: r, n, 0, d, h => ⟨e, rfl, (Option.some.inj h).symm⟩
  | e :: r, n, i + 1, d, h => by
    obtain ⟨x, h1, h2⟩ := enum_at (ds := r) (n := n + 1) (i := i) h
    exact ⟨x, h1, by rw [h2]; congr 3; omega⟩
theorem enum_len : ∀ (ds : List D) (n : Nat), (enumD n ds).length = ds.length
  | [], _ => rfl
  | _ :: r, n => congrArg (· + 1) (enum_len r (n + 1))
theorem Yl.pair {c : C} {s : S} {σ : L2.St} {H : Hp} {T : Addr} {x y : V} {d e : D} (rp : Rep c s σ H) (hT : H T = none) (h1 : Rl c.K (c.hid s.X H) x d) (h2 : Rl c.K (c.hid s.X H) y e) :
    Rep c s σ (upd H T (.tup [x, y])) ∧ AdvE c s.X H (upd H T (.tup [x, y])) ∧ Rl c.K (c.hid s.X (upd H T (.tup [x, y]))) (.ref T) (.tup [d, e]) := by
  have n := rp.new (o := .tup [x, y]) hT
  exact ⟨n.1, n.2, .tup (SqT.of (rp.at_new hT)) (.cons (h1.mono n.2.sub) (.cons (h2.mono n.2.sub) .nil))⟩
theorem Yl.enum {c : C} {s0 : S} {Hs : Hp} {K : Frag} {a : Addr} {vs : List V} {ds : List D} (hK : c.K = K) (h : c.hid s0.X Hs a = some (.lst vs)) (r : RlA c.K (c.hid s0.X Hs) vs ds) : Yl c s0 Hs (Ite K a) (enumD 0 ds) := fun i s σ H rp ad => by
  have h1 : SqL K H a vs := SqL.of (wo_sub _ _ _ _ (ad _ _ h))
  have r1 := r.mono ad
  refine ⟨fun hl => ⟨vs, h1, by rw [r.len, ← enum_len ds 0]; exact hl⟩, fun d hd => ?_⟩
  obtain ⟨e, he, rfl⟩ := enum_at hd
  obtain ⟨v, hv, hr⟩ := r1.getD he
  refine ⟨⟨vs, v, h1, hv⟩, fun x H' ⟨T, y, e1, e2, e3, e4⟩ => ?_⟩
  subst e1 e3
  have e5 := e4 vs h1
  rw [hv] at e5
  cases e5
  rw [Nat.zero_add]
  exact Yl.pair rp e2 (.int _) hr
theorem pair_at {as bs : List D} {i : Nat} {d : D} (h : (pairD as bs)[i]? = some d) : ∃ x y, as[i]? = some x ∧ bs[i]? = some y ∧ d = .tup [x, y] := by
  unfold pairD at h
  rw [List.getElem?_map] at h
  cases e : (as.zip bs)[i]? with
  | none => rw [e] at h; cases h
  | some p =>
    rw [e] at h
    obtain ⟨h1, h2⟩ := List.getElem?_zip_eq_some.mp e
    exact ⟨p.1, p.2, h1, h2, (Option.some.inj h).symm⟩
theorem pair_len (as bs : List D) : (pairD as bs).length = min as.length bs.length := by unfold pairD; rw [List.length_map, List.length_zip]
theorem Yl.zipT {c : C} {s0 : S} {Hs : Hp} {K : Frag} {a b : Addr} {vs us : List V} {ds es : List D} (hK : c.K = K) (h : SqT c.K (c.hid s0.X Hs) a vs) (r : RlA c.K (c.hid s0.X Hs) vs ds)
    (h' : SqT c.K (c.hid s0.X Hs) b us) (r' : RlA c.K (c.hid s0.X Hs) us es) : Yl c s0 Hs (RZ.ItzT K a b) (pairD ds es) := fun i s σ H rp ad => by
  subst hK
  have h1 : SqT c.K H a vs := (ad.trans (wo_sub _ _)).st h
  have h2 : SqT c.K H b us := (ad.trans (wo_sub _ _)).st h'
  have r1 := r.mono ad
  have r2 := r'.mono ad
  refine ⟨fun hl => ⟨vs, us, h1, h2, by rw [pair_len] at hl; rw [r.len, r'.len]; omega⟩, fun d hd => ?_⟩
  obtain ⟨x, y, hx, hy, rfl⟩ := pair_at hd
  obtain ⟨v, hv, hr⟩ := r1.getD hx
  obtain ⟨u, hu, hr'⟩ := r2.getD hy
  refine ⟨⟨vs, us, v, u, h1, h2, hv, hu⟩, fun z H' ⟨T, v', u', e1, e2, e3, e4, e5⟩ => ?_⟩
  subst e1 e3
  have q1 := e4 vs h1
  have q2 := e5 us h2
  rw [hv] at q1
  rw [hu] at q2
  cases q1
  cases q2
  exact Yl.pair rp e2 hr hr'
section
variable {X : Cx} {c : C} {tg : Expr}
theorem PI.weak {iter : Expr} {t t' : TI} (h : PI X tg iter t) (w : ∀ σ H R, t' σ H R → t σ H R) : PI X tg iter t' := ⟨fun p s σ H R I q => h.run p s σ H R I (w _ _ _ q)⟩
theorem pid_list (hK : c.K = X.K) {l : Expr} {t : DE} (h : PE X l (LE c t)) : PI X tg l (LI c (iLst t)) :=
  PI.weak (pi_list h) fun σ H R ⟨s, Z, rp, q, f⟩ => ⟨s, _, rp, q, fun d k ⟨ds, hd, hz⟩ v H1 r1 a1 e1 => by
    subst hd
    obtain ⟨a, vs, rfl, h1, r⟩ := e1.lstE
    exact ⟨a, rfl, ⟨vs, SqL.of (wo_sub _ _ _ _ h1)⟩, f ds k hz _ H1 r1 a1 (Yl.list hK h1 r)⟩⟩
theorem pid_tup (hK : c.K = X.K) {l : Expr} {t : DE} (h : PE X l (LE c t)) : PI X tg l (LI c (iTp t)) :=
  PI.weak (pi_tup h) fun σ H R ⟨s, Z, rp, q, f⟩ => ⟨s, _, rp, q, fun d k ⟨ds, hd, hz⟩ v H1 r1 a1 e1 => by
    subst hd
    obtain ⟨a, vs, rfl, h1, r⟩ := e1.tupE
    exact ⟨a, rfl, ⟨vs, hK ▸ (wo_sub _ _).st h1⟩, f ds k hz _ H1 r1 a1 (Yl.tup hK h1 r)⟩⟩
theorem pid_r1 {a : Expr} {t : DE} {p pos : Pos} (hm : X.mg "range" = none) (ha : PE X a (LE c t)) (hg : Gl X "range" := by rfl) (hs : starEach [a] X.env = [(false, eval a X.env)] := by rfl) : PI X tg (.Call (.Name "range" p) [a] [] pos) (LI c (iR1 t)) :=
  PI.weak (pi_range1 hg hm (pad_cons ha pad_nil hs) hs) fun σ H R ⟨s, Z, rp, q, f⟩ =>
    ⟨s, fun ds k => (match ds with | [d] => ∃ j, d = .int j ∧ -(2 ^ 62) ≤ j ∧ j < 2 ^ 62 ∧ Z (rngD 0 j.toNat) k | _ => False), rp, q, fun ds k hq vs H1 r1 a1 e1 => by
      cases e1 with
      | nil => exact hq.elim
      | cons e1 e2 =>
        cases e2 with
        | cons _ _ => exact hq.elim
        | nil =>
          obtain ⟨j, hd, h1, h2, hz⟩ := hq
          subst hd
          cases e1.intE
          exact ⟨j, rfl, h1, h2, f _ k hz _ H1 r1 a1 Yl.range⟩⟩
theorem pid_r2 {a b : Expr} {t u : DE} {p pos : Pos} (hm : X.mg "range" = none) (ha : PE X a (LE c t)) (hb : PE X b (LE c u)) (hg : Gl X "range" := by rfl) (hs : starEach [a, b] X.env = [(false, eval a X.env), (false, eval b X.env)] := by rfl) (hs2 : starEach [b] X.env = [(false, eval b X.env)] := by rfl) :
    PI X tg (.Call (.Name "range" p) [a, b] [] pos) (LI c (iR2 t u)) :=
  PI.weak (pi_range2 hg hm (pad_cons ha (pad_cons hb pad_nil hs2) (by rw [hs, hs2])) hs hs2) fun σ H R ⟨s, Z, rp, q, f⟩ =>
    ⟨s, fun ds k => (match ds with | [d, e] => ∃ i j, d = .int i ∧ e = .int j ∧ (-(2 ^ 62) ≤ i ∧ i < 2 ^ 62 ∧ -(2 ^ 62) ≤ j ∧ j < 2 ^ 62) ∧ Z (rngD i (j - i).toNat) k | _ => False), rp, q, fun ds k hq vs H1 r1 a1 e1 => by
      cases e1 with
      | nil => exact hq.elim
      | cons e1 e2 =>
        cases e2 with
        | nil => exact hq.elim
        | cons e2 e3 =>
          cases e3 with
          | cons _ _ => exact hq.elim
          | nil =>
            obtain ⟨i, j, hd, he, h1, hz⟩ := hq
            subst hd he
            cases e1.intE
            cases e2.intE
            exact ⟨i, j, rfl, h1, f _ k hz _ H1 r1 a1 Yl.range⟩⟩
abbrev iZp (t u : DE) : DI := fun s Q => t s fun d k => u (s.at k) fun e k' => ∃ ds es, d = .tup ds ∧ e = .tup es ∧ Q (pairD ds es) k'
theorem pid_zip (hK : c.K = X.K) {e e2 : Expr} {t u : DE} {p pos tpos : Pos} {elts : List Expr} {kk : Nat} (hm : X.mg "zip" = none) (h : PE X e (LE c t)) (h' : PE X e2 (LE c u)) (hg : Gl X "zip" := by rfl)
    (hs : starEach [e, e2] X.env = (false, eval e X.env) :: starEach [e2] X.env := by rfl) (hs2 : starEach [e2] X.env = (false, eval e2 X.env) :: starEach [] X.env := by rfl) (hpl : (backTo pos (starEach [e2] X.env)).any (·.1) = false := by rfl) :
    PI X (.Tuple elts kk tpos) (.Call (.Name "zip" p) [e, e2] [] pos) (LI c (iZp t u)) :=
  PI.weak (RZ.pi_zipA hg hm (pad_cons h (pad_cons h' pad_nil hs2) hs) hs hpl) fun σ H R ⟨s, Z, rp, q, f⟩ =>
    ⟨s, fun ds k => (match ds with | [d, e] => ∃ ds es, d = .tup ds ∧ e = .tup es ∧ Z (pairD ds es) k | _ => False), rp, q, fun ds k hq vs H1 r1 a1 e1 => by
      cases e1 with
      | nil => exact hq.elim
      | cons e1 e2 =>
        cases e2 with
        | nil => exact hq.elim
        | cons e2 e3 =>
          cases e3 with
          | cons _ _ => exact hq.elim
          | nil =>
            obtain ⟨i, j, hd, he, hz⟩ := hq
            subst hd he
            obtain ⟨a, vs, rfl, h1, r⟩ := e1.tupE
            obtain ⟨b, us, rfl, h2, r'⟩ := e2.tupE
            exact ⟨a, b, vs, us, rfl, .inr ⟨hK ▸ (wo_sub _ _).st h1, hK ▸ (wo_sub _ _).st h2, f _ k hz _ H1 r1 a1 (Yl.zipT hK h1 r h2 r')⟩⟩⟩
end
end DL
namespace DL
open PySem L2
open PySem.W (Frag)
abbrev S.put (s : S) (i : Nat) (x : Sl) : S := { s with sl := s.sl.set i x }
theorem get_set_cases {α : Type} {l : List α} {i j : Nat} {x y : α} (h : (l.set i x)[j]? = some y) : (i = j ∧ y = x ∧ j < l.length) ∨ (i ≠ j ∧ l[j]? = some y) := by
  by_cases e : i = j
  · subst e
    by_cases hl : i < l.length
    · rw [List.getElem?_set_self hl] at h
      exact .inl ⟨rfl, (Option.some.inj h).symm, hl⟩
    · rw [List.getElem?_eq_none (by rw [List.length_set]; omega)] at h
      cases h
  · rw [List.getElem?_set_ne e] at h
    exact .inr ⟨e, h⟩
theorem Rep.put {c : C} {s : S} {σ : L2.St} {H : Hp} {i : Nat} {v : V} {x : Sl} (r : Rep c s σ H) (h : SlOk c s.X H (some (some v)) x) (ha : ∀ p ds, x = .own p ds → ∀ j q es, s.sl[j]? = some (.own q es) → j ≠ i → p ≠ q) : Rep c (s.put i x) (σ.set i (some v)) H := by
  refine ⟨r.sub, r.old, r.x0, r.xm, r.xs, r.m, fun j y e => ?_, fun j k p q ds es e1 e2 ne => ?_, by rw [List.length_set, List.length_set]; exact r.len, r.tb, r.xt⟩
  · rcases get_set_cases e with ⟨rfl, rfl, hl⟩ | ⟨ne, e⟩
    · rw [List.getElem?_set_self (by rw [← r.len]; exact hl)]
      exact h
    · rw [List.getElem?_set_ne ne]
      exact r.slot j y e
  · rcases get_set_cases e1 with ⟨rfl, e1, _⟩ | ⟨n1, e1⟩
    · rcases get_set_cases e2 with ⟨rfl, _, _⟩ | ⟨n2, e2⟩
      · exact absurd rfl ne
      · exact ha p ds e1.symm k q es e2 (fun z => n2 z.symm)
    · rcases get_set_cases e2 with ⟨rfl, e2, _⟩ | ⟨n2, e2⟩
      · exact fun z => ha q es e2.symm j p ds e1 (fun z => n1 z.symm) z.symm
      · exact r.apart j k p q ds es e1 e2 ne
theorem Rep.putD {c : C} {s : S} {σ : L2.St} {H : Hp} {i : Nat} {v : V} {d : D} (r : Rep c s σ H) (h : Rl c.K (c.hid s.X H) v d) : Rep c (s.put i (.dat d)) (σ.set i (some v)) H := r.put ⟨v, rfl, h⟩ fun p ds e => nomatch e
theorem Rep.wipe1 {c : C} {s : S} {σ : L2.St} {H : Hp} {i : Nat} (r : Rep c s σ H) : Rep c (s.put i .no) (σ.set i none) H := by
  refine ⟨r.sub, r.old, r.x0, r.xm, r.xs, r.m, fun j y e => ?_, fun j k p q ds es e1 e2 ne => ?_, by rw [List.length_set, List.length_set]; exact r.len, r.tb, r.xt⟩
  · rcases get_set_cases e with ⟨rfl, rfl, hl⟩ | ⟨ne, e⟩
    · trivial
    · rw [List.getElem?_set_ne ne]
      exact r.slot j y e
  · rcases get_set_cases e1 with ⟨rfl, e1, _⟩ | ⟨n1, e1⟩
    · cases e1
    · rcases get_set_cases e2 with ⟨rfl, e2, _⟩ | ⟨n2, e2⟩
      · cases e2
      · exact r.apart j k p q ds es e1 e2 ne
@[reducible] def S.wipe (s : S) : List Nat → S
  | [] => s
  | v :: vs => (s.wipe vs).put v .no
theorem S.wipe_X (s : S) : ∀ vs, (s.wipe vs).X = s.X ∧ (s.wipe vs).k = s.k
  | [] => ⟨rfl, rfl⟩
  | v :: vs => s.wipe_X vs
theorem Rep.wipe {c : C} {s : S} {σ : L2.St} {H : Hp} (r : Rep c s σ H) : ∀ vs, Rep c (s.wipe vs) (L2.wipe σ vs) H
  | [] => r
  | v :: vs => (r.wipe vs).wipe1
abbrev DG := D → S → (S → Prop) → Prop
abbrev DGs := List D → S → (S → Prop) → Prop
def LG (c : C) (ts : List Nat) (t : DG) : TG := fun v σ H Q => ∃ s R d, Rep c s σ H ∧ Rl c.K (c.hid s.X H) v d ∧ t d s R ∧ ∀ s', R s' → ∀ σ' H', Rep c s' σ' H' → AdvE c s.X H H' → s'.X = s.X → (∀ j, j ∉ ts → σ'[j]? = σ[j]?) → σ'.length = σ.length → Q σ' H'
def LGs (c : C) (ts : List Nat) (t : DGs) : TGs := fun v σ H Q => ∃ s R d, Rep c s σ H ∧ RlA c.K (c.hid s.X H) v d ∧ t d s R ∧ ∀ s', R s' → ∀ σ' H', Rep c s' σ' H' → AdvE c s.X H H' → s'.X = s.X → (∀ j, j ∉ ts → σ'[j]? = σ[j]?) → σ'.length = σ.length → Q σ' H'
abbrev dgN (i : Nat) : DG := fun d s Q => Q (s.put i (.dat d))
abbrev dgNil : DGs := fun ds s Q => ds = [] ∧ Q s
abbrev dgCons (t : DG) (u : DGs) : DGs := fun ds s Q => match ds with | d :: r => t d s fun s' => u r s' Q | [] => False
abbrev dgTup (n : Nat) (t : DGs) : DG := fun d s Q => match d with | .tup ds => ds.length = n ∧ t ds s Q | _ => False
section
variable {X : Cx} {c : C} {pos : Pos}
theorem PG.weak {tg : Expr} {t t' : TG} (h : PG X tg t) (w : ∀ v σ H Q, t' v σ H Q → t v σ H Q) : PG X tg t' := ⟨fun p s σ H v u Q I r q => h.run p s σ H v u Q I r (w _ _ _ _ q)⟩
theorem PGs.weak {tg : List Expr} {t t' : TGs} (h : PGs X tg t) (w : ∀ v σ H Q, t' v σ H Q → t v σ H Q) : PGs X tg t' := ⟨fun p s σ H v u Q I r q => h.run p s σ H v u Q I r (w _ _ _ _ q)⟩
theorem pgd_name (i : Nat) {x : PySem.Str} (hN : X.N.Nodup) (hi : X.N[i]? = some x := by rfl) (hx : Loc X.env.scope x := by first | exact Or.inl rfl | exact Or.inr rfl) (hf : X.fn x = true ∨ X.env.scope.names.lookup x = some .local := by first | exact .inl rfl | exact .inr rfl) : PG X (.Name x pos) (LG c [i] (dgN i)) :=
  PG.weak (pg_name hN hi hx hf) fun v σ H Q ⟨s, R, d, rp, e, q, f⟩ => f _ q _ H (rp.putD e) AdvE.refl rfl (fun j hj => List.getElem?_set_ne (fun z => hj (by simp [z]))) (List.length_set ..)
theorem pgds_nil : PGs X [] (LGs c [] dgNil) := PGs.weak pgs_nil fun v σ H Q ⟨s, R, d, rp, e, ⟨q1, q2⟩, f⟩ => by
  subst q1
  cases e
  exact ⟨rfl, f _ q2 _ H rp AdvE.refl rfl (fun _ _ => rfl) rfl⟩
theorem pgds_cons {e : Expr} {es : List Expr} {ts us : List Nat} {t : DG} {u : DGs} (h1 : PG X e (LG c ts t)) (h2 : PGs X es (LGs c us u)) (hs : (assignEach (e :: es) X.env).map (·.2) = assign e X.env :: (assignEach es X.env).map (·.2) := by rfl) : PGs X (e :: es) (LGs c (ts ++ us) (dgCons t u)) :=
  PGs.weak (pgs_cons h1 h2 hs) fun vs σ H Q ⟨s, R, ds, rp, r, q, f⟩ => by
    cases r with
    | nil => exact q.elim
    | cons r1 rr =>
      refine ⟨_, _, rfl, s, _, _, rp, r1, q, fun s1 q1 σ1 H1 rp1 a1 x1 k1 l1 => ?_⟩
      refine ⟨s1, _, _, rp1, ?_, q1, fun s2 q2 σ2 H2 rp2 a2 x2 k2 l2 => f s2 q2 σ2 H2 rp2 (a1.trans (x1 ▸ a2)) (x2.trans x1) (fun j hj => ?_) (l2.trans l1)⟩
      · rw [x1]; exact rr.mono a1.sub
      · rw [k2 j fun z => hj (List.mem_append_right _ z), k1 j fun z => hj (List.mem_append_left _ z)]
theorem pgd_tup (hK : c.K = X.K) (hc : X.calm = true) {es : List Expr} {kk : Nat} {ts : List Nat} {t : DGs} {n : Nat} (h : PGs X es (LGs c ts t)) (hn : (assignEach es X.env).length = n := by rfl) (hst : (assignEach es X.env).findIdx? (·.1) = none := by rfl) : PG X (.Tuple es kk pos) (LG c ts (dgTup n t)) :=
  PG.weak (pg_tup hc h hn hst) fun v σ H Q ⟨s, R, d, rp, r, q, f⟩ => by
    cases d <;> first | exact q.elim | skip
    obtain ⟨a, vs, rfl, h1, r1⟩ := r.tupE
    exact ⟨a, vs, rfl, hK ▸ (wo_sub _ _).st h1, r1.len.trans q.1, s, R, _, rp, r1, q.2, f⟩
end
abbrev S.own (s : S) (p : Addr) (k : Nat) : S := { s with X := p :: s.X, k := k }
structure NewL (c : C) (s : S) (σ : L2.St) (H : Hp) (p : Addr) (k : Nat) (ds : List D) (H' : Hp) : Prop where
  rep : Rep c (s.own p k) σ H'
  sub : Sub (c.hid s.X H) (c.hid (p :: s.X) H')
  own : ∀ a ∈ s.X, H' a = H a
  out : p ∉ s.X
  out0 : p ∉ c.X0
  new : c.H0 p = none
  vals : ∃ vs, H' p = some (.lst vs) ∧ RlA c.K (c.hid (p :: s.X) H') vs ds
def LF (c : C) (t : DA) : TE := fun σ H Q => ∃ s R, Rep c s σ H ∧ t s R ∧ ∀ ds k, R ds k → ∀ p H', NewL c s σ H p k ds H' → Q (.ref p) H'
abbrev dFr (t : DA) : DE := fun s Q => t s fun ds k => Q (.lst ds) k
theorem hid_cons (c : C) (p : Addr) (X : List Addr) (H : Hp) : Sub (c.hid (p :: X) H) (c.hid X H) := wo_more fun a h => by
  rcases List.mem_append.mp h with h | h
  · exact List.mem_append_left _ h
  · exact List.mem_append_right _ (List.mem_cons_of_mem _ h)
theorem Rep.nofree {c : C} {s : S} {σ : L2.St} {H : Hp} {p : Addr} (r : Rep c s σ H) (hp : H p = none) : p ∉ s.X ∧ p ∉ Ml c.M ∧ p ∉ c.X0 ∧ c.H0 p = none := by
  have h1 : p ∉ s.X := fun z => r.xs p z hp
  have h2 : p ∉ Ml c.M := fun z => r.m.there p z hp
  have h3 : p ∉ c.X0 := fun z => h1 (r.x0 p z)
  refine ⟨h1, h2, h3, ?_⟩
  cases e : c.H0 p with
  | none => rfl
  | some o =>
    by_cases t : NoTb o
    · have q := r.sub p o (wo_of (by intro z; rcases List.mem_append.mp z with z | z; exact h2 z; exact h3 z) e t)
      rw [(wo_ne q).2] at hp
      cases hp
    · exfalso
      refine t fun ps z => ?_
      subst z
      obtain ⟨qs, q⟩ := r.tb.tbl p ps e
      rw [hp] at q
      cases q
theorem Rep.hide {c : C} {s : S} {σ : L2.St} {H : Hp} {p : Addr} {o : HO} (r : Rep c s σ H) (hp : H p = none) (ht : NoTb o := by intro _ z; cases z) : Rep c (s.own p s.k) σ (upd H p o) ∧ Sub (c.hid s.X H) (c.hid (p :: s.X) (upd H p o)) := by
  obtain ⟨n1, n2, n3, n4⟩ := r.nofree hp
  have sb : Sub (c.hid s.X H) (c.hid (p :: s.X) (upd H p o)) := fun a u e => by
    obtain ⟨n, e⟩ := wo_ne e
    have np : a ≠ p := ne_of_none e hp
    refine wo_of (fun z => ?_) (by rw [upd_ne np]; exact e)
    rcases List.mem_append.mp z with z | z
    · exact n (List.mem_append_left _ z)
    · rcases List.mem_cons.mp z with z | z
      · exact np z
      · exact n (List.mem_append_right _ z)
  have eq : ∀ a, H a ≠ none → upd H p o a = H a := fun a h => upd_ne fun z => h (z ▸ hp)
  refine ⟨⟨r.sub.trans sb, fun a ha hm hn => ?_, fun a ha => List.mem_cons_of_mem _ (r.x0 a ha), fun a ha => ?_, fun a ha => ?_, r.m.eq (fun a ha hn => eq a hn) (.new hp), fun i x e => ?_, r.apart, r.len, r.tb.trans (.new hp), fun a ha => (List.mem_cons.mp ha).elim (fun z => by rw [z, upd_same]; exact fun ps e => ht ps (Option.some.inj e)) fun z => by rw [eq a (r.xs a z)]; exact r.xt a z⟩, sb⟩
  · rw [eq a (r.xs a (r.x0 a ha))]; exact r.old a ha hm hn
  · rcases List.mem_cons.mp ha with z | z
    · rw [z]; exact n2
    · exact r.xm a z
  · rcases List.mem_cons.mp ha with z | z
    · rw [z, upd_same]; simp
    · rw [eq a (r.xs a z)]; exact r.xs a z
  · have q := r.slot i x e
    cases x with
    | no => trivial
    | dat d =>
      obtain ⟨v, e, h⟩ := q
      exact ⟨v, e, h.mono sb⟩
    | own w ds =>
      obtain ⟨e, h1, h2, h3, vs, h4, h5⟩ := q
      exact ⟨e, List.mem_cons_of_mem _ h1, h2, h3, vs, by rw [eq w (r.xs w h1)]; exact h4, h5.mono sb⟩
    | mst => exact q
    | scr ns =>
      obtain ⟨v, e, h⟩ := q
      exact ⟨v, e, sb.sl h⟩
theorem Rep.show {c : C} {s : S} {σ : L2.St} {H : Hp} {p : Addr} {k : Nat} (r : Rep c (s.own p k) σ H) (hp : p ∉ s.X) (h0 : p ∉ c.X0) (hs : ∀ (i : Nat) (ds : List D), s.sl[i]? ≠ some (.own p ds)) : Rep c (s.at k) σ H := by
  have sb := hid_cons c p s.X H
  refine ⟨r.sub.trans sb, r.old, fun a ha => ?_, fun a ha => r.xm a (List.mem_cons_of_mem _ ha), fun a ha => r.xs a (List.mem_cons_of_mem _ ha), r.m, fun i x e => ?_, r.apart, r.len, r.tb, fun a ha => r.xt a (List.mem_cons_of_mem _ ha)⟩
  · rcases List.mem_cons.mp (r.x0 a ha) with z | z
    · exact absurd (z ▸ ha) h0
    · exact z
  · have q := r.slot i x e
    cases x with
    | no => trivial
    | dat d =>
      obtain ⟨v, e, h⟩ := q
      exact ⟨v, e, h.mono sb⟩
    | own w ds =>
      obtain ⟨e', h1, h2, h3, vs, h4, h5⟩ := q
      refine ⟨e', ?_, h2, h3, vs, h4, h5.mono sb⟩
      rcases List.mem_cons.mp h1 with z | z
      · exact absurd (z ▸ e) (hs i ds)
      · exact z
    | mst => exact q
    | scr ns =>
      obtain ⟨v, e, h⟩ := q
      exact ⟨v, e, sb.sl h⟩
theorem Rep.noslot {c : C} {s : S} {σ : L2.St} {H : Hp} {p : Addr} (r : Rep c s σ H) (hp : p ∉ s.X) (i : Nat) (ds : List D) : s.sl[i]? ≠ some (.own p ds) := fun e => hp (r.slot i _ e).2.1
section
variable {X : Cx} {c : C}
theorem LF.data {t : DA} {σ : L2.St} {H : Hp} {Q : VK} (h : LE c (dFr t) σ H Q) : LF c t σ H Q := by
  obtain ⟨s, R, rp, q, f⟩ := h
  refine ⟨s, _, rp, q, fun ds k hR p H' n => ?_⟩
  have sb := hid_cons c p s.X H'
  obtain ⟨vs, h1, h2⟩ := n.vals
  refine f _ k hR _ H' (n.rep.show n.out n.out0 (fun i es => rp.noslot n.out i es)) ⟨n.sub.trans sb, n.own⟩ (.lst (wo_of ?_ h1) (h2.mono sb))
  intro z
  rcases List.mem_append.mp z with z | z
  · exact n.rep.xm p List.mem_cons_self z
  · exact n.out z
theorem pd_fr {e : Expr} {t : DA} (h : PE X e (LF c t)) : PE X e (LE c (dFr t)) := h.weak fun σ H Q q => LF.data q
theorem NewL.mk' {s : S} {σ : L2.St} {H H1 : Hp} {k : Nat} {ds : List D} {vs : List V} {p : Addr} (r : Rep c (s.at k) σ H1) (a : AdvE c s.X H H1) (e : RlA c.K (c.hid s.X H1) vs ds) (hp : H1 p = none) : NewL c s σ H p k ds (upd H1 p (.lst vs)) := by
  obtain ⟨n1, n2, n3, n4⟩ := r.nofree hp
  have h := r.hide (o := .lst vs) hp
  exact ⟨h.1, a.sub.trans h.2, fun x hx => by rw [upd_ne (fun z => n1 (show p ∈ s.X by rw [← z]; exact hx))]; exact a.own x hx, n1, n3, n4, vs, upd_same, e.mono h.2⟩
abbrev dLs (t : DA) : DA := fun s Q => t s fun ds k => ds.length ≤ lim ∧ Q ds k
theorem pdf_lst {es : List Expr} {pos : Pos} {t : DA} (h : PA X es (LA c t)) : PE X (.List es pos) (LF c (dLs t)) :=
  (pe_lst h).weak fun σ H Q ⟨s, R, rp, q, f⟩ => ⟨s, _, rp, q, fun ds k ⟨hl, hR⟩ vs H1 r1 a1 e1 => ⟨by rw [e1.len]; exact lim_le hl, fun p hp => f ds k hR p _ (NewL.mk' r1 a1 e1 hp)⟩⟩
end
end DL
namespace DL
open PySem L2
open PySem.W (Frag)
abbrev dLc (it : DI) (g : DG) (tt : DT) (te : DE) (vs : List Nat) : DA := fun s Q => it s fun items k0 => items.length ≤ lim ∧ ∀ p, p ∉ s.X → ∃ Inv : Nat → List D → Nat → Prop, Inv 0 [] k0 ∧
  (∀ i d acc k, items[i]? = some d → Inv i acc k → acc.length ≤ i → g d (((s.own p k).wipe vs)) fun s2 => tt s2 fun b k2 => if b = true then te (s2.at k2) fun y k3 => Inv (i + 1) (acc ++ [y]) k3 else Inv (i + 1) acc k2) ∧
  ∀ acc k, Inv items.length acc k → acc.length ≤ items.length → Q acc k
abbrev dY : DT := fun s Q => Q true s.k
theorem wipe_ext {vs : List Nat} : ∀ {σ τ : L2.St}, σ.length = τ.length → (∀ j, j ∉ vs → σ[j]? = τ[j]?) → wipe σ vs = wipe τ vs := by
  have get : ∀ (vs : List Nat) (σ : L2.St) (j : Nat), (wipe σ vs)[j]? = if j ∈ vs then (if j < σ.length then some none else none) else σ[j]? := by
    intro vs
    induction vs with
    | nil => intro σ j; simp [wipe]
    | cons v r ih =>
      intro σ j
      show ((wipe σ r).set v none)[j]? = _
      by_cases e : v = j
      · subst e
        by_cases hl : v < σ.length
        · rw [List.getElem?_set_self (by rw [wipe_length]; exact hl)]
          simp [hl]
        · rw [List.getElem?_eq_none (by rw [List.length_set, wipe_length]; omega)]
          simp [hl]
      · rw [List.getElem?_set_ne e, ih]
        have : j ≠ v := fun z => e z.symm
        simp [this]
  intro σ τ hl h
  refine List.ext_getElem? fun j => ?_
  rw [get, get]
  by_cases hj : j ∈ vs
  · simp [hj, hl]
  · simp [hj, h j hj]
theorem pts_none {X : Cx} {c : C} : PTs X [] (LT c dY) := ⟨fun pins s σ H Q I ⟨st, R, rp, q, f⟩ => pts_nil.run pins s σ H Q I (f _ _ q H rp AdvE.refl)⟩
theorem ptsd_one {X : Cx} {c : C} {e : Expr} {t : DT} (h : PT X e (LT c t)) : PTs X [e] (LT c t) := pts_one h
theorem lc_imp {c : C} {own : List (PySem.Str × Nat)} {wi : DI} {g : DG} {tt : DT} {te : DE} {ts : List Nat} (hts : ∀ j ∈ ts, j ∈ own.map (·.2)) (σ : L2.St) (H : Hp) (Q : VK) (h : LF c (dLc wi g tt te (own.map (·.2))) σ H Q) :
    tLc (LI c wi) (LG c ts g) (LT c tt) (LE c te) (own.map (·.2)) σ H Q := by
    obtain ⟨s, R, rp, q, f⟩ := h
    refine ⟨s, _, rp, q, fun items k0 hz J H1 r1 a1 yl D hD => ?_⟩
    obtain ⟨hl, hz⟩ := hz
    obtain ⟨n1, n2, n3, n4⟩ := r1.nofree hD
    obtain ⟨Inv, i0, turn, fin⟩ := hz D n1
    have hid0 := r1.hide (o := .lst []) hD
    -- the state at turn i: D holds the values of acc
    refine ⟨fun i m H' => m = items.length - i ∧ i ≤ items.length ∧ ∃ acc vs k, Inv i acc k ∧ acc.length ≤ i ∧ H' D = some (.lst vs) ∧ Rep c (s.own D k) σ H' ∧ Sub (c.hid s.X H1) (c.hid (D :: s.X) H') ∧ (∀ a ∈ s.X, H' a = H1 a) ∧ RlA c.K (c.hid (D :: s.X) H') vs acc,
      ⟨items.length, by simp, Nat.zero_le _, [], [], k0, i0, Nat.le_refl _, upd_same, hid0.1, hid0.2, fun a ha => upd_ne fun z => n1 (show D ∈ s.X by rw [← z]; exact ha), .nil⟩, ?_⟩
    rintro i m H' ⟨rfl, hi', acc, vs, k, hI, hlen, hD', rp', sb, ow, ra⟩
    obtain ⟨yl1, yl2⟩ := yl i (s.own D k) σ H' rp' sb
    by_cases hlt : i < items.length
    · obtain ⟨d, hd⟩ : ∃ d, items[i]? = some d := ⟨items[i], by simp [hlt]⟩
      obtain ⟨go, yd⟩ := yl2 d hd
      refine .inr ⟨go, fun H'' => ∃ acc vs k, Inv (i + 1) acc k ∧ acc.length ≤ i + 1 ∧ H'' D = some (.lst vs) ∧ Rep c (s.own D k) σ H'' ∧ Sub (c.hid s.X H1) (c.hid (D :: s.X) H'') ∧ (∀ a ∈ s.X, H'' a = H1 a) ∧ RlA c.K (c.hid (D :: s.X) H'') vs acc,
        fun H'' ⟨acc, vs, k, h⟩ => ⟨items.length - (i + 1), by omega, rfl, hlt, acc, vs, k, h⟩, fun x H2 hy => ?_⟩
      obtain ⟨r2, a2, e2⟩ := yd x H2 hy
      have xw : ((s.own D k).wipe (own.map (·.2))).X = D :: s.X := ((s.own D k).wipe_X _).1
      refine ⟨(s.own D k).wipe (own.map (·.2)), _, d, r2.wipe _, by rw [xw]; exact e2, turn i d acc k hd hI hlen, fun s3 h3 σ3 H3 r3 a3 x3 k3 l3 => ?_⟩
      have x3' : s3.X = D :: s.X := x3.trans xw
      have a3' : AdvE c (D :: s.X) H2 H3 := xw ▸ a3
      have we : wipe σ3 (own.map (·.2)) = wipe σ (own.map (·.2)) := by
        have q1 : wipe σ3 (own.map (·.2)) = wipe (wipe σ (own.map (·.2))) (own.map (·.2)) := wipe_ext l3 fun j hj => k3 j fun z => hj (hts j z)
        rw [q1]
        refine wipe_ext (wipe_length _ _) fun j hj => ?_
        have := @wipe_ext (own.map (·.2))
        -- outside the own slots nothing is wiped
        have aux : ∀ (vs : List Nat), (∀ v ∈ vs, v ∈ own.map (·.2)) → (wipe σ vs)[j]? = σ[j]? := by
          intro vs
          induction vs with
          | nil => intro _; rfl
          | cons v r ih =>
            intro hv
            show ((wipe σ r).set v none)[j]? = _
            rw [List.getElem?_set_ne (fun z => hj (show j ∈ own.map (·.2) by rw [← z]; exact hv v List.mem_cons_self)), ih fun w hw => hv w (List.mem_cons_of_mem _ hw)]
        exact aux _ fun _ h => h
      refine ⟨we, ?_⟩
      -- back to the frame's slots: what the block knows of σ3 is not asked any more
      have back : ∀ {k' : Nat} {H4 : Hp}, Rep c (s3.at k') σ3 H4 → AdvE c (D :: s.X) H3 H4 → Rep c (s.own D k') σ H4 := fun {k' H4} r4 a4 => by
        have st : Sub (c.hid (D :: s.X) H') (c.hid (D :: s.X) H4) := (a2.sub.trans a3'.sub).trans a4.sub
        exact rp'.step (k := k') st (fun a ha _ => ((a4.own a ha).trans (a3'.own a ha)).trans (a2.own a ha)) r4.m r4.tb
      refine ⟨s3, _, r3, h3, fun b k4 h4 H4 r4 a4 => ?_⟩
      have a4' : AdvE c (D :: s.X) H3 H4 := x3' ▸ a4
      have D4 : H4 D = some (.lst vs) := by rw [a4'.own D List.mem_cons_self, a3'.own D List.mem_cons_self, a2.own D List.mem_cons_self]; exact hD'
      have st4 : Sub (c.hid (D :: s.X) H') (c.hid (D :: s.X) H4) := (a2.sub.trans a3'.sub).trans a4'.sub
      have ow4 : ∀ a ∈ D :: s.X, H4 a = H' a := fun a ha => ((a4'.own a ha).trans (a3'.own a ha)).trans (a2.own a ha)
      cases b with
      | false =>
        have h4 : Inv (i + 1) acc k4 := h4
        exact iteF ⟨acc, vs, k4, h4, by omega, D4, back r4 a4', sb.trans st4, fun a ha => (ow4 a (List.mem_cons_of_mem _ ha)).trans (ow a ha), ra.mono st4⟩
      | true =>
        have h4 : te (s3.at k4) fun y k3 => Inv (i + 1) (acc ++ [y]) k3 := h4
        refine iteT ⟨s3.at k4, _, r4, h4, fun y k5 h5 v5 H5 r5 a5 e5 => ?_⟩
        have a5' : AdvE c (D :: s.X) H4 H5 := x3' ▸ a5
        have D5 : H5 D = some (.lst vs) := by rw [a5'.own D List.mem_cons_self]; exact D4
        have st5 : Sub (c.hid (D :: s.X) H') (c.hid (D :: s.X) H5) := st4.trans a5'.sub
        refine ⟨vs, D5, by rw [ra.len]; exact lim_lt (by omega), acc ++ [y], vs ++ [v5], k5, h5, by rw [List.length_append, List.length_singleton]; omega, upd_same, ?_, ?_, ?_, ?_⟩
        · have rr : Rep c (s.own D k5) σ H5 := back r5 ⟨a4'.sub.trans a5'.sub, fun a ha => (a5'.own a ha).trans (a4'.own a ha)⟩
          -- D's content is in no slot
          have no := fun i ds => rp.noslot n1 i ds
          refine ⟨rr.sub.trans (wo_mut (List.mem_append_right _ List.mem_cons_self)), fun a ha hm hn => ?_, rr.x0, rr.xm, fun a ha => ?_, rr.m.eq (fun a ha _ => upd_ne fun z => n2 (show D ∈ Ml c.M by rw [← z]; exact ha)) (.at_ D5), fun j x e => ?_, rr.apart, rr.len, rr.tb.trans (.at_ D5), fun a ha => by
            by_cases z : a = D
            · rw [z, upd_same]; exact fun _ e => by cases e
            · rw [upd_ne z]; exact rr.xt a ha⟩
          · rw [upd_ne fun z => n3 (show D ∈ c.X0 by rw [← z]; exact ha)]
            exact rr.old a ha hm hn
          · by_cases z : a = D
            · rw [z, upd_same]; simp
            · rw [upd_ne z]; exact rr.xs a ha
          · have q := rr.slot j x e
            have sm : Sub (c.hid (D :: s.X) H5) (c.hid (D :: s.X) (upd H5 D (.lst (vs ++ [v5])))) := wo_mut (List.mem_append_right _ List.mem_cons_self)
            cases x with
            | no => trivial
            | dat d =>
              obtain ⟨v, e, h⟩ := q
              exact ⟨v, e, h.mono sm⟩
            | own w ds =>
              obtain ⟨e', h1, h2, h3, ws, h4, h5⟩ := q
              have nw : w ≠ D := fun z => no j ds (z ▸ e)
              exact ⟨e', h1, h2, h3, ws, by rw [upd_ne nw]; exact h4, h5.mono sm⟩
            | mst => exact q
            | scr ns =>
              obtain ⟨v, e, h⟩ := q
              exact ⟨v, e, sm.sl h⟩
        · exact (sb.trans st5).trans (wo_mut (List.mem_append_right _ List.mem_cons_self))
        · intro a ha
          rw [upd_ne fun z => n1 (show D ∈ s.X by rw [← z]; exact ha), a5'.own a (List.mem_cons_of_mem _ ha), ow4 a (List.mem_cons_of_mem _ ha)]
          exact ow a ha
        · exact ((ra.mono st5).app (.cons (by rw [x3'] at e5; exact e5) .nil)).mono (wo_mut (List.mem_append_right _ List.mem_cons_self))
    · have e : i = items.length := by omega
      subst e
      exact .inl ⟨yl1 (Nat.le_refl _), f acc k (fin acc k hI hlen) D H' ⟨rp', a1.sub.trans sb, fun a ha => (ow a ha).trans (a1.own a ha), n1, n3, n4, vs, hD', ra⟩⟩
theorem pdf_lc {X : Cx} {c : C} {elt tg iter : Expr} {ifs : List Expr} {scope : Scope} {own : List (PySem.Str × Nat)} {pos : Pos} {wi : DI} {g : DG} {tt : DT} {te : DE} {ts : List Nat} (hc : X.calm = true) (hN : X.N.Nodup) (hi : PI X tg iter (LI c wi)) (ok : BlkOk X.N X.env.scope scope own)
    (hg : ∀ (s : Shared) (H : Hp) (C : Addr) (cl : List (PySem.Str × Addr)) (fp : List Addr), PG (X.blk s H scope (compEnvC scope cl C X.env) fp) tg (LG c ts g)) (ht : ∀ (s : Shared) (H : Hp) (C : Addr) (cl : List (PySem.Str × Addr)) (fp : List Addr), PTs (X.blk s H scope (compEnvC scope cl C X.env) fp) ifs (LT c tt))
    (he : ∀ (s : Shared) (H : Hp) (C : Addr) (cl : List (PySem.Str × Addr)) (fp : List Addr), PE (X.blk s H scope (compEnvC scope cl C X.env) fp) elt (LE c te)) (hts : ∀ j ∈ ts, j ∈ own.map (·.2) := by decide) (hs : ∀ x, foldedSetIterable iter X.env x = pure x := by intro _; rfl) :
    PE X (.ListComp elt [⟨tg, iter, ifs, 0⟩] scope pos) (LF c (dLc wi g tt te (own.map (·.2)))) :=
  (pe_lc hc hN hi ok hg ht he hs).weak fun σ H Q h => lc_imp hts σ H Q h
end DL
namespace DL
open PySem L2
open PySem.W (Frag)
structure DEnds where
  nx : S → Prop
  rt : D → Nat → Prop
  bk : S → Prop := fun _ => False
  ct : S → Prop := fun _ => False
abbrev DS := DEnds → S → Prop
def Adv' (c : C) (X : List Addr) (H : Hp) (X' : List Addr) (H' : Hp) : Prop := Sub (c.hid X H) (c.hid X' H')
structure Fin (c : C) (H' : Hp) (k : Nat) : Prop where
  sub : Sub (c.hid c.X0 c.H0) (c.hid c.X0 H')
  old : ∀ a ∈ c.X0, a ∉ Ml c.M → c.H0 a ≠ none → H' a = c.H0 a
  m : MAt c.M H' k
  tb : TbK c.H0 H'
structure Fits (c : C) (X : List Addr) (H : Hp) (DD : DEnds) (D : Ends) : Prop where
  nx : ∀ s' σ' H', Rep c s' σ' H' → Adv' c X H s'.X H' → DD.nx s' → D.nx σ' H'
  bk : ∀ s' σ' H', Rep c s' σ' H' → Adv' c X H s'.X H' → DD.bk s' → D.bk σ' H'
  ct : ∀ s' σ' H', Rep c s' σ' H' → Adv' c X H s'.X H' → DD.ct s' → D.ct σ' H'
  rt : ∀ d k v H', Fin c H' k → Rl c.K (c.hid c.X0 H') v d → DD.rt d k → D.rt v H'
def LS (c : C) (t : DS) : TS := fun D σ H => ∃ s DD, Rep c s σ H ∧ t DD s ∧ Fits c s.X H DD D
theorem Fits.on {c : C} {X X1 : List Addr} {H H1 : Hp} {DD : DEnds} {D : Ends} (f : Fits c X H DD D) (a : Adv' c X H X1 H1) : Fits c X1 H1 DD D :=
  ⟨fun s σ H' r b q => f.nx s σ H' r (a.trans b) q, fun s σ H' r b q => f.bk s σ H' r (a.trans b) q, fun s σ H' r b q => f.ct s σ H' r (a.trans b) q, f.rt⟩
theorem Rep.sub0 {c : C} {s : S} {σ : L2.St} {H : Hp} (r : Rep c s σ H) : Sub (c.hid s.X H) (c.hid c.X0 H) := wo_more fun a h => by
  rcases List.mem_append.mp h with h | h
  · exact List.mem_append_left _ h
  · exact List.mem_append_right _ (r.x0 a h)
theorem Rep.fin {c : C} {s : S} {σ : L2.St} {H : Hp} (r : Rep c s σ H) : Fin c H s.k := ⟨r.sub.trans r.sub0, r.old, r.m, r.tb⟩
abbrev dNext : DS := fun DD s => DD.nx s
abbrev dSeq (t u : DS) : DS := fun DD s => t { DD with nx := u DD } s
abbrev dSet (i : Nat) (t : DE) : DS := fun DD s => t s fun d k => DD.nx ((s.put i (.dat d)).at k)
abbrev dAsg (t : DE) (g : DG) : DS := fun DD s => t s fun d k => g d (s.at k) DD.nx
abbrev dSetO (i : Nat) (t : DA) : DS := fun DD s => t s fun ds k => ∀ p, p ∉ s.X → DD.nx ((s.own p k).put i (.own p ds))
@[reducible] def Sl.frz : Sl → Sl
  | .own _ ds => .dat (.lst ds)
  | x => x
abbrev dRet (t : DE) : DS := fun DD s => ∀ X, t ⟨X, s.sl.map Sl.frz, s.k⟩ fun d k => DD.rt d k
abbrev dIfS (c : DT) (t u : DS) : DS := fun DD s => c s fun b k => if b = true then t DD (s.at k) else u DD (s.at k)
abbrev dDrop (t : DE) : DS := fun DD s => t s fun _ k => DD.nx (s.at k)
abbrev dFor (it : DI) (g : DG) (body : DS) : DS := fun DD s => it s fun items k0 => ∃ Inv : Nat → S → Prop, Inv 0 (s.at k0) ∧
  (∀ i d s', items[i]? = some d → Inv i s' → g d s' fun s2 => body { DD with nx := Inv (i + 1), ct := Inv (i + 1), bk := DD.nx } s2) ∧ ∀ s', Inv items.length s' → DD.nx s'
abbrev dWhile (t : DT) (body : DS) : DS := fun DD s => ∃ Inv : Nat → S → Prop, (∃ m, Inv m s) ∧ ∀ m s', Inv m s' → t s' fun b k =>
  if b = true then body { DD with nx := fun s2 => ∃ m', m' < m ∧ Inv m' s2, ct := fun s2 => ∃ m', m' < m ∧ Inv m' s2, bk := DD.nx } (s'.at k) else DD.nx (s'.at k)
theorem Rep.frz {c : C} {s : S} {σ : L2.St} {H : Hp} (r : Rep c s σ H) : Rep c ⟨c.X0, s.sl.map Sl.frz, s.k⟩ σ H := by
  refine ⟨r.sub.trans r.sub0, r.old, fun a h => h, fun a h => r.xm a (r.x0 a h), fun a h => r.xs a (r.x0 a h), r.m, fun i x e => ?_, fun i j p q ds es e1 _ _ => ?_, by show (s.sl.map Sl.frz).length = _; rw [List.length_map]; exact r.len, r.tb, fun a h => r.xt a (r.x0 a h)⟩
  · have e : (s.sl.map Sl.frz)[i]? = some x := e
    rw [List.getElem?_map] at e
    cases h : s.sl[i]? with
    | none => rw [h] at e; cases e
    | some y =>
      rw [h] at e
      obtain rfl : Sl.frz y = x := Option.some.inj e
      have q := r.slot i y h
      cases y with
      | no => trivial
      | dat d =>
        obtain ⟨v, e, h⟩ := q
        exact ⟨v, e, h.mono r.sub0⟩
      | own p ds =>
        obtain ⟨e', h1, h2, h3, vs, h4, h5⟩ := q
        refine ⟨_, e', .lst (wo_of (fun z => ?_) h4) (h5.mono r.sub0)⟩
        rcases List.mem_append.mp z with z | z
        · exact r.xm p h1 z
        · exact h2 z
      | mst => exact q
      | scr ns =>
        obtain ⟨v, e, h⟩ := q
        exact ⟨v, e, r.sub0.sl h⟩
  · have e1 : (s.sl.map Sl.frz)[i]? = some (.own p ds) := e1
    rw [List.getElem?_map] at e1
    cases h : s.sl[i]? with
    | none => rw [h] at e1; cases e1
    | some y => rw [h] at e1; cases y <;> cases e1
section
variable {X : Cx} {c : C} {pos : Pos}
theorem psd_nil : PSs X [] (LS c dNext) := pss_nil.weak fun D σ H ⟨s, DD, rp, q, f⟩ => f.nx s σ H rp (Sub.refl _) q
theorem psd_cons {st : Stmt} {r : List Stmt} {t u : DS} (h1 : PS X st (LS c t)) (h2 : PSs X r (LS c u)) : PSs X (st :: r) (LS c (dSeq t u)) :=
  (pss_cons h1 h2).weak fun D σ H ⟨s, DD, rp, q, f⟩ => ⟨s, { DD with nx := u DD }, rp, q, ⟨fun s' σ' H' r' a q' => ⟨s', DD, r', q', f.on a⟩, f.bk, f.ct, f.rt⟩⟩
theorem psd_one {st : Stmt} {t : DS} (h1 : PS X st (LS c t)) : PSs X [st] (LS c t) := pss_one h1
theorem psd_never {st : Stmt} : PS X st (LS c (fun _ _ => False)) := ⟨fun _ _ _ _ _ _ ⟨_, _, _, q, _⟩ => q.elim⟩
theorem psd_set (i : Nat) {x : PySem.Str} {e : Expr} {t : DE} {pos' : Pos} (hN : X.N.Nodup) (he : PE X e (LE c t)) (hi : X.N[i]? = some x := by rfl) (hx : Loc X.env.scope x := by first | exact Or.inl rfl | exact Or.inr rfl) (hs : swapsWith e (some (.Name x pos')) pos.line X.env = pure false := by rfl) (hf : X.fn x = true ∨ X.env.scope.names.lookup x = some .local := by first | exact .inl rfl | exact .inr rfl) :
    PS X (.Assign [.Name x pos'] e pos) (LS c (dSet i t)) :=
  (ps_set hN hi hx he hs hf).weak fun D σ H ⟨s, DD, rp, q, f⟩ => ⟨s, _, rp, q, fun d k h v H1 r1 a1 e1 => f.nx _ _ H1 (r1.putD e1) a1.sub h⟩
theorem psd_asg {tg e : Expr} {t : DE} {g : DG} {ts : List Nat} (he : PE X e (LE c t)) (hg : PG X tg (LG c ts g)) (hs : swapsWithSole [tg] e pos.line X.env = pure false := by rfl) (hw : swappedStores [tg] e X.env = pure none := by rfl)
    (h1 : (assignEach [tg] X.env).map (·.2) = [assign tg X.env] := by rfl) : PS X (.Assign [tg] e pos) (LS c (dAsg t g)) :=
  (ps_asg he hg hs hw h1).weak fun D σ H ⟨s, DD, rp, q, f⟩ => ⟨s, _, rp, q, fun d k h v H1 r1 a1 e1 => ⟨s.at k, _, d, r1, e1, h, fun s2 q2 σ2 H2 r2 a2 x2 _ _ => f.nx s2 σ2 H2 r2 (a1.sub.trans (x2 ▸ a2.sub)) q2⟩⟩
theorem NewL.put {s : S} {σ : L2.St} {H : Hp} {p : Addr} {k : Nat} {ds : List D} {H' : Hp} (n : NewL c s σ H p k ds H') (rp : Rep c s σ H) (i : Nat) : Rep c ((s.own p k).put i (.own p ds)) (σ.set i (some (.ref p))) H' :=
  n.rep.put ⟨rfl, List.mem_cons_self, n.out0, n.new, n.vals⟩ fun q es e j q' es' e' _ => by
    cases e
    exact fun z => rp.noslot n.out j es' (z ▸ e')
theorem psd_setLc (i : Nat) {y : PySem.Str} {py : Pos} {elt tg iter : Expr} {ifs : List Expr} {scope : Scope} {own : List (PySem.Str × Nat)} {wi : DI} {g : DG} {tt : DT} {te : DE} {ts : List Nat} {lpos spos : Pos} (hc : X.calm = true) (hN : X.N.Nodup) (hi : PI X tg iter (LI c wi)) (ok : BlkOk X.N X.env.scope scope own)
    (hg : ∀ (s : Shared) (H : Hp) (C : Addr) (cl : List (PySem.Str × Addr)) (fp : List Addr), PG (X.blk s H scope (compEnvC scope cl C X.env) fp) tg (LG c ts g)) (ht : ∀ (s : Shared) (H : Hp) (C : Addr) (cl : List (PySem.Str × Addr)) (fp : List Addr), PTs (X.blk s H scope (compEnvC scope cl C X.env) fp) ifs (LT c tt))
    (he : ∀ (s : Shared) (H : Hp) (C : Addr) (cl : List (PySem.Str × Addr)) (fp : List Addr), PE (X.blk s H scope (compEnvC scope cl C X.env) fp) elt (LE c te)) (hy : X.N[i]? = some y := by rfl) (hyl : X.env.scope.names.lookup y = some .local := by rfl)
    (hsw : swapsWith (.ListComp elt [⟨tg, iter, ifs, 0⟩] scope lpos) (some (.Name y py)) spos.line X.env = pure true := by exact sw_true rfl rfl rfl (by decide +kernel)) (hts : ∀ j ∈ ts, j ∈ own.map (·.2) := by decide) (hs : ∀ x, foldedSetIterable iter X.env x = pure x := by intro _; rfl) :
    PS X (.Assign [.Name y py] (.ListComp elt [⟨tg, iter, ifs, 0⟩] scope lpos) spos) (LS c (dSet i (dFr (dLc wi g tt te (own.map (·.2)))))) :=
  (ps_setLc hc hN hy hyl hsw hi ok hg ht he hs).weak fun D σ H ⟨s, DD, rp, q, f⟩ => lc_imp hts σ H _ (LF.data ⟨s, _, rp, q, fun d k h v H1 r1 a1 e1 => f.nx _ _ H1 (r1.putD e1) a1.sub h⟩)
theorem psd_setLcO (i : Nat) {y : PySem.Str} {py : Pos} {elt tg iter : Expr} {ifs : List Expr} {scope : Scope} {own : List (PySem.Str × Nat)} {wi : DI} {g : DG} {tt : DT} {te : DE} {ts : List Nat} {lpos spos : Pos} (hc : X.calm = true) (hN : X.N.Nodup) (hi : PI X tg iter (LI c wi)) (ok : BlkOk X.N X.env.scope scope own)
    (hg : ∀ (s : Shared) (H : Hp) (C : Addr) (cl : List (PySem.Str × Addr)) (fp : List Addr), PG (X.blk s H scope (compEnvC scope cl C X.env) fp) tg (LG c ts g)) (ht : ∀ (s : Shared) (H : Hp) (C : Addr) (cl : List (PySem.Str × Addr)) (fp : List Addr), PTs (X.blk s H scope (compEnvC scope cl C X.env) fp) ifs (LT c tt))
    (he : ∀ (s : Shared) (H : Hp) (C : Addr) (cl : List (PySem.Str × Addr)) (fp : List Addr), PE (X.blk s H scope (compEnvC scope cl C X.env) fp) elt (LE c te)) (hy : X.N[i]? = some y := by rfl) (hyl : X.env.scope.names.lookup y = some .local := by rfl)
    (hsw : swapsWith (.ListComp elt [⟨tg, iter, ifs, 0⟩] scope lpos) (some (.Name y py)) spos.line X.env = pure true := by exact sw_true rfl rfl rfl (by decide +kernel)) (hts : ∀ j ∈ ts, j ∈ own.map (·.2) := by decide) (hs : ∀ x, foldedSetIterable iter X.env x = pure x := by intro _; rfl) :
    PS X (.Assign [.Name y py] (.ListComp elt [⟨tg, iter, ifs, 0⟩] scope lpos) spos) (LS c (dSetO i (dLc wi g tt te (own.map (·.2))))) :=
  (ps_setLc hc hN hy hyl hsw hi ok hg ht he hs).weak fun D σ H ⟨s, DD, rp, q, f⟩ => lc_imp hts σ H _ ⟨s, _, rp, q, fun ds k h p H1 n => f.nx _ _ H1 (n.put rp i) n.sub (h p n.out)⟩
theorem psd_ret {e : Expr} {t : DE} (he : PE X e (LE c t)) : PS X (.Return (some e) pos) (LS c (dRet t)) :=
  (ps_ret he).weak fun D σ H ⟨s, DD, rp, q, f⟩ => ⟨_, _, rp.frz, q c.X0, fun d k h v H1 r1 a1 e1 => f.rt d k v H1 r1.fin e1 h⟩
theorem psd_if {t : Expr} {a b : List Stmt} {tt : DT} {ta tb : DS} (ht : PT X t (LT c tt)) (ha : PSs X a (LS c ta)) (hb : PSs X b (LS c tb)) : PS X (.If t a b pos) (LS c (dIfS tt ta tb)) :=
  (ps_if ht ha hb).weak fun D σ H ⟨s, DD, rp, q, f⟩ => ⟨s, _, rp, q, fun x k h H1 r1 a1 => by
    cases x with
    | true => exact ⟨s.at k, DD, r1, h, f.on a1.sub⟩
    | false => exact ⟨s.at k, DD, r1, h, f.on a1.sub⟩⟩
theorem psd_expr {e : Expr} {t : DE} (he : PE X e (LE c t)) (hs : swapsWith e none pos.line X.env = pure false := by rfl) : PS X (.Expr e pos) (LS c (dDrop t)) :=
  (ps_expr he hs).weak fun D σ H ⟨s, DD, rp, q, f⟩ => ⟨s, _, rp, q, fun d k h v H1 r1 a1 e1 => f.nx _ σ H1 r1 a1.sub h⟩
theorem psd_for {tg iter : Expr} {body : List Stmt} {it : DI} {g : DG} {tb : DS} {ts : List Nat} (hp : PassesOwn (model X.prog X.w) X.A X.env X.xe) (hc : X.calm = true) (hi : PI X tg iter (LI c it)) (hg : PG X tg (LG c ts g)) (hb : PSs X body (LS c tb))
    (hs : ∀ x, foldedSetIterable iter X.env x = pure x := by intro _; rfl) : PS X (.For tg iter body [] pos) (LS c (dFor it g tb)) :=
  (ps_for hp hc hi hg hb hs).weak fun D σ H ⟨s, DD, rp, q, f⟩ => by
    refine ⟨s, _, rp, q, fun items k0 ⟨IV, i0, turn, fin⟩ J H1 r1 a1 yl => ?_⟩
    refine ⟨fun i m σ' H' => m = items.length - i ∧ i ≤ items.length ∧ ∃ s', IV i s' ∧ Rep c s' σ' H' ∧ Adv' c s.X H1 s'.X H', ⟨items.length, by simp, Nat.zero_le _, s.at k0, i0, r1, Sub.refl _⟩, ?_⟩
    rintro i m σ' H' ⟨rfl, hi', s', hI, rp', ad⟩
    obtain ⟨yl1, yl2⟩ := yl i s' σ' H' rp' ad
    by_cases hlt : i < items.length
    · obtain ⟨d, hd⟩ : ∃ d, items[i]? = some d := ⟨items[i], by simp [hlt]⟩
      obtain ⟨go, yd⟩ := yl2 d hd
      refine .inr ⟨go, fun σ2 H2 => ∃ s', IV (i + 1) s' ∧ Rep c s' σ2 H2 ∧ Adv' c s.X H1 s'.X H2, fun σ2 H2 ⟨s2, h⟩ => ⟨items.length - (i + 1), by omega, rfl, hlt, s2, h⟩, fun x H2 hy => ?_⟩
      obtain ⟨r2, a2, e2⟩ := yd x H2 hy
      refine ⟨s', _, d, r2, e2, turn i d s' hd hI, fun s3 h3 σ3 H3 r3 a3 x3 _ _ => ?_⟩
      have ad3 : Adv' c s.X H1 s3.X H3 := (ad.trans a2.sub).trans (x3 ▸ a3.sub)
      exact ⟨s3, _, r3, h3, ⟨fun s4 σ4 H4 r4 a4 h4 => ⟨s4, h4, r4, ad3.trans a4⟩, fun s4 σ4 H4 r4 a4 h4 => f.nx s4 σ4 H4 r4 (a1.sub.trans (ad3.trans a4)) h4, fun s4 σ4 H4 r4 a4 h4 => ⟨s4, h4, r4, ad3.trans a4⟩, f.rt⟩⟩
    · have e : i = items.length := by omega
      subst e
      exact .inl ⟨yl1 (Nat.le_refl _), f.nx s' σ' H' rp' (a1.sub.trans ad) (fin s' hI)⟩
theorem psd_while {t : Expr} {body : List Stmt} {tt : DT} {tb : DS} (hp : PassesOwn (model X.prog X.w) X.A X.env X.xe) (ht : PT X t (LT c tt)) (hb : PSs X body (LS c tb)) : PS X (.While t body [] pos) (LS c (dWhile tt tb)) :=
  (ps_while hp ht hb).weak fun D σ H ⟨s, DD, rp, ⟨IV, ⟨m0, i0⟩, turn⟩, f⟩ => by
    refine ⟨fun m σ' H' => ∃ s', IV m s' ∧ Rep c s' σ' H' ∧ Adv' c s.X H s'.X H', ⟨m0, s, i0, rp, Sub.refl _⟩, ?_⟩
    rintro m σ' H' ⟨s', hI, rp', ad⟩
    refine ⟨s', _, rp', turn m s' hI, fun b k h H1 r1 a1 => ?_⟩
    have ad1 : Adv' c s.X H s'.X H1 := ad.trans a1.sub
    cases b with
    | true =>
      refine iteT ⟨fun σ2 H2 => ∃ m', m' < m ∧ ∃ s2, IV m' s2 ∧ Rep c s2 σ2 H2 ∧ Adv' c s.X H s2.X H2, fun σ2 H2 h => h, s'.at k, _, r1, h, ?_⟩
      exact ⟨fun s4 σ4 H4 r4 a4 ⟨m', hm, h4⟩ => ⟨m', hm, s4, h4, r4, ad1.trans a4⟩, fun s4 σ4 H4 r4 a4 h4 => f.nx s4 σ4 H4 r4 (ad1.trans a4) h4, fun s4 σ4 H4 r4 a4 ⟨m', hm, h4⟩ => ⟨m', hm, s4, h4, r4, ad1.trans a4⟩, f.rt⟩
    | false => exact iteF (f.nx (s'.at k) σ' H1 r1 ad1 h)
end
end DL
namespace DL
open PySem L2
open PySem.W (Frag)
@[reducible] def S.seq (s : S) (i : Nat) : Option (List D) := match s.sl[i]? with
  | some (.own _ ds) => some ds
  | some (.dat d) => d.items
  | _ => none
theorem Rep.seq {c : C} {s : S} {σ : L2.St} {H : Hp} {i : Nat} {ds : List D} (r : Rep c s σ H) (h : s.seq i = some ds) : ∃ a vs, σ[i]? = some (some (.ref a)) ∧ (SqL c.K H a vs ∨ SqT c.K H a vs) ∧ RlA c.K (c.hid s.X H) vs ds := by
  unfold S.seq at h
  cases e : s.sl[i]? with
  | none => rw [e] at h; cases h
  | some x =>
    rw [e] at h
    have q := r.slot i x e
    cases x with
    | no => cases h
    | mst => cases h
    | scr ns => cases h
    | dat d =>
      obtain ⟨v, e1, h1⟩ := q
      obtain ⟨a, vs, rfl, h2, h3⟩ := h1.items h
      exact ⟨a, vs, e1, sq_all (wo_sub _ _) h2, h3⟩
    | own p es =>
      cases h
      obtain ⟨e1, _, _, _, vs, h4, h5⟩ := q
      exact ⟨p, vs, e1, .inl (SqL.of h4), h5⟩
abbrev dLenN (i : Nat) : DE := fun s Q => ∃ ds, s.seq i = some ds ∧ Q (.int ds.length) s.k
abbrev dIxN (i : Nat) (t : DE) : DE := fun s Q => ∃ ds, s.seq i = some ds ∧ t s fun d k => ∃ j e, d = .int j ∧ atI ds j = some e ∧ Q e k
abbrev dTupN (i : Nat) : DE := fun s Q => ∃ ds, s.seq i = some ds ∧ Q (.tup ds) s.k
theorem S.seq_kind {c : C} {s : S} {σ : L2.St} {H : Hp} {i : Nat} {ds : List D} (r : Rep c s σ H) (h : s.seq i = some ds) : (∃ a vs, σ[i]? = some (some (.ref a)) ∧ H a = some (.lst vs) ∧ RlA c.K (c.hid s.X H) vs ds) ∨ ∃ v, σ[i]? = some (some v) ∧ Rl c.K (c.hid s.X H) v (.tup ds) := by
  unfold S.seq at h
  cases e : s.sl[i]? with
  | none => rw [e] at h; cases h
  | some x =>
    rw [e] at h
    have q := r.slot i x e
    cases x with
    | no => cases h
    | mst => cases h
    | scr ns => cases h
    | dat d =>
      obtain ⟨v, e1, h1⟩ := q
      cases d <;> first | cases h | skip
      · obtain ⟨a, vs, rfl, h2, h3⟩ := h1.lstE
        exact .inl ⟨a, vs, e1, wo_sub _ _ _ _ h2, h3⟩
      · exact .inr ⟨v, e1, h1⟩
    | own p es =>
      cases h
      obtain ⟨e1, _, _, _, vs, h4, h5⟩ := q
      exact .inl ⟨p, vs, e1, h4, h5⟩
abbrev dLstN (i : Nat) : DA := fun s Q => ∃ ds, s.seq i = some ds ∧ Q ds s.k
section
variable {X : Cx} {c : C} {pos p : Pos}
theorem pd_lenN (hK : c.K = X.K) (hm : X.mg "len" = none) (i : Nat) {x : PySem.Str} {pn : Pos} (hN : X.N[i]? = some x := by rfl) (hv : Vis X.env.scope x := by first | exact Or.inl rfl | exact Or.inr (Or.inl rfl) | exact Or.inr (Or.inr rfl)) (hd : (x == ("__debug__" : PySem.Str)) = false := by decide) (hcd : (x == ("__classdict__" : PySem.Str)) = false := by decide)
    (hg : Gl X "len" := by rfl) (hs : starEach [Expr.Name x pn] X.env = (false, eval (Expr.Name x pn) X.env) :: starEach [] X.env := by rfl) (hp : (backTo pos (starEach [] X.env)).any (·.1) = false := by rfl) :
    PE X (.Call (.Name "len" p) [.Name x pn] [] pos) (LE c (dLenN i)) :=
  (pe_callB call_len_seq hg hm PySem.boot_len (pa_cons (pe_var hN hv hd hcd) pa_nil hs) (he := hs) (hpl := hp)).weak fun σ H Q ⟨s, R, rp, ⟨ds, h1, h2⟩, f⟩ => by
    obtain ⟨a, vs, e, h, r⟩ := rp.seq h1
    exact ⟨_, e, a, vs, rfl, hK ▸ h, by rw [r.len]; exact f _ _ h2 _ H rp AdvE.refl (.int _)⟩
theorem pd_ixN (hK : c.K = X.K) (i : Nat) {x : PySem.Str} {pn : Pos} {b : Expr} {t : DE} (hb : PE X b (LE c t)) (hN : X.N[i]? = some x := by rfl) (hv : Vis X.env.scope x := by first | exact Or.inl rfl | exact Or.inr (Or.inl rfl) | exact Or.inr (Or.inr rfl)) (hd : (x == ("__debug__" : PySem.Str)) = false := by decide) (hcd : (x == ("__classdict__" : PySem.Str)) = false := by decide) (hs : PlainIx b := by exact fun _ _ => rfl) :
    PE X (.Subscript (.Name x pn) b pos) (LE c (dIxN i t)) :=
  (pe_ix ix_seq (pe_var hN hv hd hcd) hb hs).weak fun σ H Q ⟨s, R, rp, ⟨ds, h2, q⟩, f⟩ => by
    obtain ⟨a0, _, e1, _⟩ := rp.seq h2
    refine ⟨_, e1, s, _, rp, q, fun d' k ⟨j, e', h3, h4, h5⟩ w H1 r1 a1 e2 => ?_⟩
    obtain ⟨a, vs, e3, h6, r6⟩ := Rep.seq (s := s.at k) r1 h2
    rw [e1] at e3
    cases e3
    subst h3
    cases e2.intE
    obtain ⟨u, h7, h8⟩ := at_rl r6 h4
    rcases h6 with h6 | h6
    · exact .inl ⟨_, vs, j, u, rfl, rfl, hK ▸ h6, h7, f _ k h5 _ H1 r1 a1 h8⟩
    · exact .inr (.inl ⟨_, vs, j, u, rfl, rfl, hK ▸ h6, h7, f _ k h5 _ H1 r1 a1 h8⟩)
theorem pd_tupN (hK : c.K = X.K) (hm : X.mg "tuple" = none) (i : Nat) {x : PySem.Str} {pn : Pos} (hN : X.N[i]? = some x := by rfl) (hv : Vis X.env.scope x := by first | exact Or.inl rfl | exact Or.inr (Or.inl rfl) | exact Or.inr (Or.inr rfl)) (hd : (x == ("__debug__" : PySem.Str)) = false := by decide) (hcd : (x == ("__classdict__" : PySem.Str)) = false := by decide)
    (hg : Gl X "tuple" := by rfl) (hs : starEach [Expr.Name x pn] X.env = (false, eval (Expr.Name x pn) X.env) :: starEach [] X.env := by rfl) :
    PE X (.Call (.Name "tuple" p) [.Name x pn] [] pos) (LE c (dTupN i)) :=
  (pe_tupleOf hg hm (pe_var hN hv hd hcd) hs).weak fun σ H Q ⟨s, R, rp, ⟨ds, h1, h2⟩, f⟩ => by
    rcases S.seq_kind rp h1 with ⟨a, vs, e, h, r⟩ | ⟨v, e, h⟩
    · refine ⟨_, e, .inl ⟨a, vs, rfl, SqL.of h, fun q hq => ?_⟩⟩
      have n := rp.new (o := .tup vs) hq
      exact f _ _ h2 _ _ n.1 n.2 (.tup (SqT.of (rp.at_new hq)) (r.mono n.2.sub))
    · obtain ⟨a, vs, rfl, h3, r⟩ := h.tupE
      exact ⟨_, e, .inr ⟨a, vs, rfl, hK ▸ (wo_sub _ _).st h3, f _ _ h2 _ H rp AdvE.refl h⟩⟩
theorem pdf_lstN (hK : c.K = X.K) (hm : X.mg "list" = none) (i : Nat) {x : PySem.Str} {pn : Pos} (hN : X.N[i]? = some x := by rfl) (hv : Vis X.env.scope x := by first | exact Or.inl rfl | exact Or.inr (Or.inl rfl) | exact Or.inr (Or.inr rfl)) (hd : (x == ("__debug__" : PySem.Str)) = false := by decide) (hcd : (x == ("__classdict__" : PySem.Str)) = false := by decide)
    (hg : Gl X "list" := by rfl) (hs : starEach [Expr.Name x pn] X.env = (false, eval (Expr.Name x pn) X.env) :: starEach [] X.env := by rfl) (hp : (backTo pos (starEach [] X.env)).any (·.1) = false := by rfl) :
    PE X (.Call (.Name "list" p) [.Name x pn] [] pos) (LF c (dLstN i)) :=
  (pe_callTy call_list_of hg hm PyProof.Rows.boot_list (pa_cons (pe_var hN hv hd hcd) pa_nil hs) (he := hs) (hpl := hp)).weak fun σ H Q ⟨s, R, rp, ⟨ds, h1, h2⟩, f⟩ => by
    obtain ⟨a, vs, e, h, r⟩ := rp.seq h1
    exact ⟨_, e, a, vs, rfl, hK ▸ h, fun q hq => f ds _ h2 q _ (NewL.mk' rp AdvE.refl r hq)⟩
end
end DL
namespace DL
open PySem L2
open PySem.W (Frag)
abbrev dLen (t : DE) : DE := fun s Q => t s fun d k => ∃ ds, d.items = some ds ∧ Q (.int ds.length) k
abbrev dTupOf (t : DE) : DE := fun s Q => t s fun d k => ∃ ds, d.items = some ds ∧ Q (.tup ds) k
abbrev dLstOf (t : DE) : DA := fun s Q => t s fun d k => ∃ ds, d.items = some ds ∧ Q ds k
abbrev dInt (t : DE) : DE := fun s Q => t s fun d k => ∃ i, d = .int i ∧ Q (.int i) k
abbrev dLr2 (t u : DE) : DA := fun s Q => t s fun d k => u (s.at k) fun e k' => ∃ i j, d = .int i ∧ e = .int j ∧ (-1000 ≤ i ∧ i ≤ 1000 ∧ -1000 ≤ j ∧ j ≤ 1000) ∧ Q (rngD i (j - i).toNat) k'
theorem rng_rl {K : Frag} {A : Hp} (a b : Int) : RlA K A (rgV a b) (rngD a (b - a).toNat) := by
  unfold rgV rngD
  generalize (List.range (b - a).toNat) = l
  induction l with
  | nil => exact .nil
  | cons i r ih => exact .cons (.int _) ih
section
variable {X : Cx} {c : C} {pos p : Pos}
theorem pd_len (hK : c.K = X.K) (hm : X.mg "len" = none) {e : Expr} {t : DE} (h : PE X e (LE c t)) (hg : Gl X "len" := by rfl) (hs : starEach [e] X.env = (false, eval e X.env) :: starEach [] X.env := by rfl) (hp : (backTo pos (starEach [] X.env)).any (·.1) = false := by rfl) :
    PE X (.Call (.Name "len" p) [e] [] pos) (LE c (dLen t)) :=
  (pe_callB call_len_seq hg hm PySem.boot_len (pa_cons h pa_nil hs) (he := hs) (hpl := hp)).weak fun σ H Q ⟨s, R, rp, q, f⟩ => ⟨s, _, rp, q, fun d k ⟨ds, h1, h2⟩ v H1 r1 a1 e1 => by
    obtain ⟨a, vs, rfl, h, r⟩ := e1.items h1
    exact ⟨a, vs, rfl, hK ▸ sq_all (wo_sub _ _) h, by rw [r.len]; exact f _ k h2 _ H1 r1 a1 (.int _)⟩⟩
theorem pd_tupOf (hK : c.K = X.K) (hm : X.mg "tuple" = none) {e : Expr} {t : DE} (h : PE X e (LE c t)) (hg : Gl X "tuple" := by rfl) (hs : starEach [e] X.env = (false, eval e X.env) :: starEach [] X.env := by rfl) :
    PE X (.Call (.Name "tuple" p) [e] [] pos) (LE c (dTupOf t)) :=
  (pe_tupleOf hg hm h hs).weak fun σ H Q ⟨s, R, rp, q, f⟩ => ⟨s, _, rp, q, fun d k ⟨ds, h1, h2⟩ v H1 r1 a1 e1 => by
    cases d <;> first | cases h1 | skip
    · obtain ⟨a, vs, rfl, h, r⟩ := e1.lstE
      refine .inl ⟨a, vs, rfl, SqL.of (wo_sub _ _ _ _ h), fun q hq => ?_⟩
      have n := r1.new (o := .tup vs) hq
      exact f _ _ h2 _ _ n.1 (a1.trans n.2) (.tup (SqT.of (r1.at_new hq)) (r.mono n.2.sub))
    · obtain ⟨a, vs, rfl, h, r⟩ := e1.tupE
      exact .inr ⟨a, vs, rfl, hK ▸ (wo_sub _ _).st h, f _ _ h2 _ H1 r1 a1 e1⟩⟩
theorem pdf_lstOf (hK : c.K = X.K) (hm : X.mg "list" = none) {e : Expr} {t : DE} (h : PE X e (LE c t)) (hg : Gl X "list" := by rfl) (hs : starEach [e] X.env = (false, eval e X.env) :: starEach [] X.env := by rfl) (hp : (backTo pos (starEach [] X.env)).any (·.1) = false := by rfl) :
    PE X (.Call (.Name "list" p) [e] [] pos) (LF c (dLstOf t)) :=
  (pe_callTy call_list_of hg hm PyProof.Rows.boot_list (pa_cons h pa_nil hs) (he := hs) (hpl := hp)).weak fun σ H Q ⟨s, R, rp, q, f⟩ => ⟨s, _, rp, q, fun d k ⟨ds, h1, h2⟩ v H1 r1 a1 e1 => by
    obtain ⟨a, vs, rfl, h, r⟩ := e1.items h1
    exact ⟨a, vs, rfl, hK ▸ sq_all (wo_sub _ _) h, fun q hq => f ds _ h2 q _ (NewL.mk' r1 a1 r hq)⟩⟩
theorem pd_int1 (hm : X.mg "int" = none) {e : Expr} {t : DE} (h : PE X e (LE c t)) (hg : Gl X "int" := by rfl) (hs : starEach [e] X.env = (false, eval e X.env) :: starEach [] X.env := by rfl) (hp : (backTo pos (starEach [] X.env)).any (·.1) = false := by rfl) :
    PE X (.Call (.Name "int" p) [e] [] pos) (LE c (dInt t)) :=
  (pe_callTy call_int1 hg hm PyProof.Rows.boot_int (pa_cons h pa_nil hs) (he := hs) (hpl := hp)).weak fun σ H Q ⟨s, R, rp, q, f⟩ => ⟨s, _, rp, q, fun d k ⟨i, h1, h2⟩ v H1 r1 a1 e1 => by
    subst h1
    exact .inl ⟨i, by rw [e1.intE], f _ k h2 _ H1 r1 a1 (.int _)⟩⟩
theorem pdf_lr2 (hc : X.calm = true) (hm : X.mg "list" = none) (hr : X.mg "range" = none) {e e' : Expr} {t u : DE} {p2 pos2 : Pos} (h : PE X e (LE c t)) (h' : PE X e' (LE c u)) (hg : Gl X "list" := by rfl) (hg2 : Gl X "range" := by rfl) (hs : starEach [e, e'] X.env = (false, eval e X.env) :: starEach [e'] X.env := by rfl) (hs2 : starEach [e'] X.env = (false, eval e' X.env) :: starEach [] X.env := by rfl)
    (hp : (backTo pos2 (starEach [e'] X.env)).any (·.1) = false := by rfl) (na : starEach [Expr.Call (.Name "range" p2) [e, e'] [] pos2] X.env = (false, eval (Expr.Call (.Name "range" p2) [e, e'] [] pos2) X.env) :: starEach [] X.env := by rfl) : PE X (.Call (.Name "list" p) [.Call (.Name "range" p2) [e, e'] [] pos2] [] pos) (LF c (dLr2 t u)) :=
  (pe_listRg hc hg hm (prg_2 hg2 hr h h' hs hs2 hp) na).weak fun σ H Q ⟨s, R, rp, q, f⟩ => ⟨s, _, rp, q, fun d k hd v H1 r1 a1 e1 => ⟨s.at k, _, r1, hd, fun d2 k2 ⟨i, j, h1, h2, ⟨b1, b2, b3, b4⟩, h4⟩ v2 H2 r2 a2 e2 => by
    subst h1 h2
    refine ⟨i, j, e1.intE, e2.intE, ⟨by omega, by omega, by omega, by omega, by omega⟩, fun q hq => f _ k2 h4 q _ (NewL.mk' r2 (a1.trans a2) (rng_rl i j) hq)⟩⟩⟩
end
end DL
namespace DL
open PySem L2
open PySem.W (Frag)
abbrev dSix (i : Nat) (t u : DE) : DS := fun DD s => ∃ p ds, s.sl[i]? = some (.own p ds) ∧ u s fun d k => t (s.at k) fun j k' => ∃ z n, j = .int z ∧ ixN ds.length z = some n ∧ DD.nx ((s.put i (.own p (ds.set n d))).at k')
theorem Rep.mut {c : C} {s : S} {σ : L2.St} {H : Hp} {i : Nat} {p : Addr} {ds es : List D} {vs : List V} (r : Rep c s σ H) (h : s.sl[i]? = some (.own p ds)) (e : RlA c.K (c.hid s.X H) vs es) : Rep c (s.put i (.own p es)) σ (upd H p (.lst vs)) ∧ Sub (c.hid s.X H) (c.hid s.X (upd H p (.lst vs))) := by
  obtain ⟨e1, h1, h2, h3, ws, h4, h5⟩ := r.slot i _ h
  have sm : Sub (c.hid s.X H) (c.hid s.X (upd H p (.lst vs))) := wo_mut (List.mem_append_right _ h1)
  refine ⟨⟨r.sub.trans sm, fun a ha hm hn => ?_, r.x0, r.xm, fun a ha => ?_, r.m.eq (fun a ha _ => upd_ne fun z => r.xm p h1 (by rw [← z]; exact ha)) (.at_ h4), fun j x q => ?_, fun j k q w as bs q1 q2 ne => ?_, by rw [List.length_set]; exact r.len, r.tb.trans (.at_ h4), fun a ha => by
      by_cases z : a = p
      · rw [z, upd_same]; exact fun _ e => by cases e
      · rw [upd_ne z]; exact r.xt a ha⟩, sm⟩
  · rw [upd_ne fun z => h2 (by rw [← z]; exact ha)]
    exact r.old a ha hm hn
  · by_cases z : a = p
    · rw [z, upd_same]; simp
    · rw [upd_ne z]; exact r.xs a ha
  · rcases get_set_cases q with ⟨rfl, rfl, hl⟩ | ⟨ne, q⟩
    · exact ⟨e1, h1, h2, h3, vs, upd_same, e.mono sm⟩
    · have o := r.slot j x q
      cases x with
      | no => trivial
      | dat d =>
        obtain ⟨v, e, h⟩ := o
        exact ⟨v, e, h.mono sm⟩
      | own w as =>
        obtain ⟨q1, q2, q3, q4, us, q5, q6⟩ := o
        have nw : w ≠ p := r.apart j i w p as ds q h (fun z => ne z.symm)
        exact ⟨q1, q2, q3, q4, us, by rw [upd_ne nw]; exact q5, q6.mono sm⟩
      | mst => exact o
      | scr ns =>
        obtain ⟨v, e, h⟩ := o
        exact ⟨v, e, sm.sl h⟩
  · rcases get_set_cases q1 with ⟨rfl, q1, _⟩ | ⟨n1, q1⟩
    · cases q1
      rcases get_set_cases q2 with ⟨rfl, _, _⟩ | ⟨n2, q2⟩
      · exact absurd rfl ne
      · exact r.apart _ k _ w ds bs h q2 ne
    · rcases get_set_cases q2 with ⟨rfl, q2, _⟩ | ⟨n2, q2⟩
      · cases q2
        exact r.apart j _ q _ as ds q1 h ne
      · exact r.apart j k q w as bs q1 q2 ne
section
variable {X : Cx} {c : C} {pos : Pos}
theorem psd_six (i : Nat) {x : PySem.Str} {pn p2 : Pos} {e1 e2 : Expr} {t u : DE} (h1 : PE X e1 (LE c t)) (h2 : PE X e2 (LE c u)) (hN : X.N[i]? = some x := by rfl) (hv : Vis X.env.scope x := by first | exact Or.inl rfl | exact Or.inr (Or.inl rfl) | exact Or.inr (Or.inr rfl)) (hd : (x == ("__debug__" : PySem.Str)) = false := by decide) (hcd : (x == ("__classdict__" : PySem.Str)) = false := by decide)
    (ha : ∀ v, assign (.Subscript (.Name x pn) e1 p2) X.env v = (do
      let ov ← holding [v] (eval (.Name x pn) X.env)
      let iv ← holding [v, ov] (eval e1 X.env)
      standAt p2
      holding [v, ov, iv] (setItem ov iv v)
      release [v, ov, iv] []) := by intro _; rfl)
    (hs : swapsWithSole [.Subscript (.Name x pn) e1 p2] e2 pos.line X.env = pure false := by rfl) (hw : swappedStores [.Subscript (.Name x pn) e1 p2] e2 X.env = pure none := by rfl)
    (hA : (assignEach [.Subscript (.Name x pn) e1 p2] X.env).map (·.2) = [assign (.Subscript (.Name x pn) e1 p2) X.env] := by rfl) :
    PS X (.Assign [.Subscript (.Name x pn) e1 p2] e2 pos) (LS c (dSix i t u)) :=
  (ps_asg h2 (pg_sub (pe_var hN hv hd hcd) h1 set_list ha) hs hw hA).weak fun D σ H ⟨s, DD, rp, ⟨p, ds, h, q⟩, f⟩ => by
    obtain ⟨g1, g2, g3, g4, vs, g5, g6⟩ := rp.slot i _ h
    refine ⟨s, _, rp, q, fun d k hd v H1 r1 a1 e3 => ⟨_, g1, s.at k, _, r1, hd, fun j k2 ⟨z, n, hj, hz, hR⟩ w H2 r2 a2 e4 => ?_⟩⟩
    subst hj
    have h6 : H2 p = some (.lst vs) := by rw [a2.own p g2, a1.own p g2]; exact g5
    refine ⟨p, vs, z, n, rfl, e4.intE, h6, by rw [g6.len]; exact hz, ?_⟩
    have m := Rep.mut (s := s.at k2) r2 h (RlA.set (e3.mono a2.sub) n ((g6.mono a1.sub).mono a2.sub))
    exact f.nx _ σ _ m.1 ((a1.sub.trans a2.sub).trans m.2) hR
end
inductive Vx where
  | dat (d : D) | own (p : Addr) (ds : List D)
abbrev DX := S → (List Vx → S → Prop) → Prop
def VxOk (c : C) (X : List Addr) (H : Hp) (v : V) : Vx → Prop
  | .dat d => Rl c.K (c.hid X H) v d
  | .own p ds => v = .ref p ∧ p ∈ X ∧ p ∉ c.X0 ∧ c.H0 p = none ∧ ∃ vs, H p = some (.lst vs) ∧ RlA c.K (c.hid X H) vs ds
@[reducible] def Vx.sl : Vx → Sl
  | .dat d => .dat d
  | .own p ds => .own p ds
def VxAp (sl : List Sl) : List Vx → Prop
  | [] => True
  | x :: r => (∀ p ds, x = .own p ds → (∀ (i : Nat) es, sl[i]? ≠ some (.own p es)) ∧ ∀ q es, Vx.own q es ∈ r → p ≠ q) ∧ VxAp sl r
inductive VxA (c : C) (X : List Addr) (H : Hp) : List V → List Vx → Prop
  | nil : VxA c X H [] []
  | cons {v : V} {vs : List V} {x : Vx} {xs : List Vx} : VxOk c X H v x → VxA c X H vs xs → VxA c X H (v :: vs) (x :: xs)
def LX (c : C) (t : DX) : TA := fun σ H Q => ∃ s R, Rep c s σ H ∧ t s R ∧ ∀ xs s', R xs s' → ∀ vs H', Rep c s' σ H' → Sub (c.hid s.X H) (c.hid s'.X H') → (∀ a ∈ s.X, H' a = H a) → (∀ a ∈ s.X, a ∈ s'.X) → s'.sl = s.sl → VxA c s'.X H' vs xs → (∀ p ds, Vx.own p ds ∈ xs → p ∉ s.X) → VxAp s.sl xs → Q vs H'
abbrev dxN : DX := fun s Q => Q [] s
abbrev dxD (t : DE) (u : DX) : DX := fun s Q => t s fun d k => u (s.at k) fun xs s' => Q (.dat d :: xs) s'
section
variable {X : Cx} {c : C}
theorem pax_nil : PA X [] (LX c dxN) := pa_nil.weak fun σ H Q ⟨s, R, rp, q, f⟩ => f [] s q [] H rp (Sub.refl _) (fun _ _ => rfl) (fun _ h => h) rfl .nil (fun _ _ h => nomatch h) trivial
theorem pax_dat {e : Expr} {es : List Expr} {t : DE} {u : DX} (ha : PE X e (LE c t)) (hr : PA X es (LX c u)) (hs : starEach (e :: es) X.env = (false, eval e X.env) :: starEach es X.env := by rfl) : PA X (e :: es) (LX c (dxD t u)) :=
  (pa_cons ha hr hs).weak fun σ H Q ⟨s, R, rp, q, f⟩ => ⟨s, _, rp, q, fun d k hd v H1 r1 a1 e1 => ⟨s.at k, _, r1, hd, fun xs s' hx vs H2 r2 sb ow xx sl vx out ap => by
    refine f (.dat d :: xs) s' hx (v :: vs) H2 r2 (a1.sub.trans sb) (fun a h => (ow a h).trans (a1.own a h)) xx sl (.cons (e1.mono sb) vx) (fun p ds h => ?_) ⟨fun p ds h => (nomatch h), ap⟩
    rcases List.mem_cons.mp h with h | h
    · cases h
    · exact out p ds h⟩⟩
theorem VxOk.slot {H : Hp} {X : List Addr} {v : V} {x : Vx} (h : VxOk c X H v x) : SlOk c X H (some (some v)) x.sl := by
  cases x with
  | dat d => exact ⟨v, rfl, h⟩
  | own p ds =>
    obtain ⟨rfl, h⟩ := h
    exact ⟨rfl, h⟩
abbrev dPar2 (i j : Nat) (t : DX) : DS := fun DD s => t s fun xs s' => match xs with | [x, y] => DD.nx ((s'.put i x.sl).put j y.sl) | _ => False
theorem put_no {s : S} {i : Nat} {x : Vx} {p : Addr} {es : List D} {j : Nat} (h : ∀ (i : Nat) es, s.sl[i]? ≠ some (.own p es)) (hx : ∀ ds, x ≠ .own p ds) : (s.put i x.sl).sl[j]? ≠ some (.own p es) := fun e => by
  rcases get_set_cases e with ⟨_, e, _⟩ | ⟨_, e⟩
  · cases x with
    | dat d => cases e
    | own q ds => cases e; exact hx es rfl
  · exact h j es e
theorem VxOk.mono {H H' : Hp} {X : List Addr} {v : V} {x : Vx} (sb : Sub (c.hid X H) (c.hid X H')) (ow : ∀ a ∈ X, H' a = H a) (h : VxOk c X H v x) : VxOk c X H' v x := by
  cases x with
  | dat d => exact Rl.mono sb h
  | own p ds =>
    obtain ⟨h1, h2, h3, h4, vs, h5, h6⟩ := h
    exact ⟨h1, h2, h3, h4, vs, by rw [ow p h2]; exact h5, h6.mono sb⟩
theorem psd_tar2 (hK : c.K = X.K) (i j : Nat) {x y : PySem.Str} {a b : Expr} {t : DX} {px py pt pos : Pos} {kt k2 pt2} (hc : X.calm = true) (hN : X.N.Nodup) (ha : PA X [a, b] (LX c t)) (hij : i ≠ j := by decide) (hi : X.N[i]? = some x := by rfl) (hj : X.N[j]? = some y := by rfl)
    (hx : Loc X.env.scope x := by first | exact Or.inl rfl | exact Or.inr rfl) (hy : Loc X.env.scope y := by first | exact Or.inl rfl | exact Or.inr rfl)
    (fx : X.fn x = true ∨ X.env.scope.names.lookup x = some .local := by first | exact .inl rfl | exact .inr rfl) (fy : X.fn y = true ∨ X.env.scope.names.lookup y = some .local := by first | exact .inl rfl | exact .inr rfl)
    (h1 : (assignEach [.Name x px, .Name y py] X.env).map (·.2) = assign (.Name x px) X.env :: (assignEach [.Name y py] X.env).map (·.2) := by rfl) (h2 : (assignEach [.Name y py] X.env).map (·.2) = assign (.Name y py) X.env :: (assignEach [] X.env).map (·.2) := by rfl)
    (hn : (assignEach [.Name x px, .Name y py] X.env).length = 2 := by rfl) (hst : (assignEach [.Name x px, .Name y py] X.env).findIdx? (·.1) = none := by rfl)
    (hs : swapsWithSole [.Tuple [.Name x px, .Name y py] kt pt] (.Tuple [a, b] k2 pt2) pos.line X.env = pure false := by rfl) (hw : swappedStores [.Tuple [.Name x px, .Name y py] kt pt] (.Tuple [a, b] k2 pt2) X.env = pure none := by rfl)
    (hA : (assignEach [.Tuple [.Name x px, .Name y py] kt pt] X.env).map (·.2) = [assign (.Tuple [.Name x px, .Name y py] kt pt) X.env] := by rfl) :
    PS X (.Assign [.Tuple [.Name x px, .Name y py] kt pt] (.Tuple [a, b] k2 pt2) pos) (LS c (dPar2 i j t)) :=
  (ps_asg (pe_tup ha) (pg_tup hc (pgs_cons (pg_name hN hi hx fx) (pgs_cons (pg_name hN hj hy fy) pgs_nil h2) h1) hn hst) hs hw hA).weak fun D σ H ⟨s, DD, rp, q, f⟩ => ⟨s, _, rp, q, fun xs s' h vs H1 r1 sb ow xx sl vx out ap => by
    cases vx with
    | nil => exact h.elim
    | @cons w1 _ x1 _ v1 vx =>
      cases vx with
      | nil => exact h.elim
      | @cons w2 _ x2 _ v2 vx =>
        cases vx with
        | cons _ _ => exact h.elim
        | nil =>
          obtain ⟨ap1, ap2, _⟩ := ap
          refine ⟨by show 2 ≤ sizeLine; decide, fun p hp => ⟨p, _, rfl, SqT.of upd_same, rfl, _, _, rfl, _, _, rfl, rfl, ?_⟩⟩
          have n := r1.new (o := .tup [w1, w2]) hp
          refine f.nx _ _ _ ((n.1.put (v1.mono n.2.sub n.2.own).slot fun p ds e j q es e' _ z => ?_).put (v2.mono n.2.sub n.2.own).slot fun p ds e j q es e' _ z => ?_) (sb.trans n.2.sub) h
          · cases x1 with
            | dat d => cases e
            | own p1 ds1 =>
              cases e
              rw [sl] at e'
              exact (ap1 _ _ rfl).1 j es (z ▸ e')
          · cases x2 with
            | dat d => cases e
            | own p1 ds1 =>
              cases e
              refine put_no (s := s') (x := x1) (p := p) (fun i es => ?_) (fun es' e1 => ?_) (z ▸ e')
              · rw [sl]; exact (ap2 _ _ rfl).1 i es
              · subst e1
                exact (ap1 _ _ rfl).2 _ _ List.mem_cons_self rfl⟩
end
end DL
namespace DL
open PySem L2
open PySem.W (Frag)
abbrev DSp := List D → Nat → (D → Nat → Prop) → Prop
structure Aft (K : Frag) (M : Option Mc) (X0 : List Addr) (H H' : Hp) (k : Nat) : Prop where
  sub : Sub (wo H (Ml M ++ X0)) (wo H' (Ml M ++ X0))
  old : ∀ a ∈ X0, H' a = H a
  m : MAt M H' k
  tb : TbK H H'
structure Ahd (K : Frag) (M : Option Mc) (X0 : List Addr) (H : Hp) (k : Nat) (ws : List V) (ds : List D) : Prop where
  xm : ∀ a ∈ X0, a ∉ Ml M
  xs : ∀ a ∈ X0, H a ≠ none
  m : MAt M H k
  args : RlA K (wo H (Ml M ++ X0)) ws ds
  xt : ∀ a ∈ X0, ∀ ps, H a ≠ some (.tbl ps)
def spD (K : Frag) (hm : Bool) (sp : DSp) : Sp := fun vs H Q _ => ∃ (M : Option Mc) (X0 : List Addr) (k : Nat) (ds : List D) (ws : List V) (R : D → Nat → Prop),
  (match hm with | true => ∃ m, M = some m ∧ vs = .ref m.pm :: ws | false => M = none ∧ vs = ws) ∧ Ahd K M X0 H k ws ds ∧ sp ds k R ∧
  ∀ d k', R d k' → ∀ v H', Aft K M X0 H H' k' → Rl K (wo H' (Ml M ++ X0)) v d → Q v H'
structure CalD (P : Program) (w : World) (K : Frag) (mg : PySem.Str → Option Value) (base : Heap) (k : Nat) (x : PySem.Str) (hm : Bool) (sp : DSp) : Prop where
  ex : ∃ f fd ps, FnOk P w K mg base CX0 k f fd ps (spD K hm sp) ∧ mg x = some (.ref f) ∧ PySem.W.keepIn K (.ref f) = true ∧ Binds K fd ps []
abbrev dCall (sp : DSp) (t : DA) : DE := fun s Q => t s fun ds k => sp ds 0 fun d _ => Q d k
abbrev dCallM (i : Nat) (sp : DSp) (t : DA) : DE := fun s Q => s.sl[i]? = some .mst ∧ t s fun ds k => sp ds k Q
theorem Rep.allHid {c : C} {s : S} {σ : L2.St} {H : Hp} (r : Rep c s σ H) : ∀ a ∈ Ml c.M ++ s.X, H a ≠ none := fun a h => by
  rcases List.mem_append.mp h with h | h
  · exact r.m.there a h
  · exact r.xs a h
theorem MAt.noTb {m : Option Mc} {H : Hp} {k : Nat} (h : MAt m H k) : ∀ a ∈ Ml m, ∀ ps, H a ≠ some (.tbl ps) := by
  cases m with
  | none => intro a ha; simp [Ml] at ha
  | some m =>
    obtain ⟨cs, gs, n, o, q⟩ := h
    intro a ha ps
    simp [Ml] at ha
    rcases ha with rfl | rfl | rfl
    · rw [o.hm]; intro e; cases e
    · rw [o.hc]; intro e; cases e
    · rw [o.hg]; intro e; cases e
theorem Rep.allTb {c : C} {s : S} {σ : L2.St} {H : Hp} (r : Rep c s σ H) : ∀ a ∈ Ml c.M ++ s.X, ∀ ps, H a ≠ some (.tbl ps) := fun a h => (List.mem_append.mp h).elim (r.m.noTb a) (r.xt a)
theorem Rep.after {c : C} {s : S} {σ : L2.St} {H H' : Hp} {k : Nat} (r : Rep c s σ H) (a : Aft c.K none (Ml c.M ++ s.X) H H' k) : Rep c s σ H' ∧ AdvE c s.X H H' := by
  have h : Sub (c.hid s.X H) (c.hid s.X H') := a.sub
  refine ⟨r.step (k := s.k) h (fun b hb _ => a.old b (List.mem_append_right _ hb)) (r.m.eq (fun b hb _ => a.old b (List.mem_append_left _ hb)) a.tb) (r.tb.trans a.tb), h, fun b hb => a.old b (List.mem_append_right _ hb)⟩
theorem Rep.afterM {c : C} {s : S} {σ : L2.St} {H H' : Hp} {k : Nat} (r : Rep c s σ H) (a : Aft c.K c.M s.X H H' k) : Rep c (s.at k) σ H' ∧ AdvE c s.X H H' :=
  ⟨r.step a.sub (fun b hb _ => a.old b hb) a.m (r.tb.trans a.tb), a.sub, a.old⟩
section
variable {X : Cx} {c : C} {k j : Nat} {x : PySem.Str} {sp : DSp} {p pos : Pos}
theorem pd_call (hK : c.K = X.K) (F : CalD X.prog X.w X.K X.mg X.base k x false sp) (hr : Room j X.A) (hk : k ≤ j) {e : Expr} {es : List Expr} {t : DA} (ha : PA X (e :: es) (LA c t)) (hg : Gl X x := by rfl) (hdb : (x == ("__debug__" : PySem.Str)) = false := by decide) (he : starEach (e :: es) X.env = (false, eval e X.env) :: starEach es X.env := by rfl) (hpl : (backTo pos (starEach es X.env)).any (·.1) = false := by rfl) :
    PE X (.Call (.Name x p) (e :: es) [] pos) (LE c (dCall sp t)) := by
  obtain ⟨f, fd, ps, G, hm, kp, b⟩ := F.ex
  refine (pe_call G (hr.mono hk) hg hm kp b .nil pass0 ha hdb he hpl).weak fun σ H Q ⟨s, R, rp, q, fn⟩ => ⟨s, _, rp, q, fun ds k1 h1 vs H1 r1 a1 e1 => ?_⟩
  refine ⟨none, Ml c.M ++ s.X, 0, ds, vs, _, ⟨rfl, by rw [List.append_nil]⟩, ⟨fun a _ => by simp [Ml], r1.allHid, trivial, hK ▸ e1, r1.allTb⟩, h1, fun d k' hR v H' af er => ?_⟩
  have z := Rep.after (s := s.at k1) r1 ⟨af.sub, af.old, af.m, af.tb⟩
  exact fn d k1 hR v H' z.1 (a1.trans z.2) (hK ▸ er)
theorem pd_callM (hK : c.K = X.K) (F : CalD X.prog X.w X.K X.mg X.base k x true sp) (hr : Room j X.A) (hk : k ≤ j) (i : Nat) {y : PySem.Str} {pn : Pos} {es : List Expr} {t : DA} (ha : PA X es (LA c t)) (hN : X.N[i]? = some y := by rfl) (hv : Vis X.env.scope y := by first | exact Or.inl rfl | exact Or.inr (Or.inl rfl) | exact Or.inr (Or.inr rfl)) (hd : (y == ("__debug__" : PySem.Str)) = false := by decide) (hcd : (y == ("__classdict__" : PySem.Str)) = false := by decide)
    (hg : Gl X x := by rfl) (hdb : (x == ("__debug__" : PySem.Str)) = false := by decide) (he : starEach (Expr.Name y pn :: es) X.env = (false, eval (Expr.Name y pn) X.env) :: starEach es X.env := by rfl) (hpl : (backTo pos (starEach es X.env)).any (·.1) = false := by rfl) :
    PE X (.Call (.Name x p) (.Name y pn :: es) [] pos) (LE c (dCallM i sp t)) := by
  obtain ⟨f, fd, ps, G, hm, kp, b⟩ := F.ex
  refine (pe_call G (hr.mono hk) hg hm kp b .nil pass0 (pa_cons (pe_var hN hv hd hcd) ha he) hdb he hpl).weak fun σ H Q ⟨s, R, rp, ⟨hs, q⟩, fn⟩ => ?_
  obtain ⟨m, hM, e0⟩ := rp.slot i _ hs
  refine ⟨_, e0, s, _, rp, q, fun ds k1 h1 vs H1 r1 a1 e1 => ?_⟩
  refine ⟨c.M, s.X, k1, ds, vs, _, ⟨m, hM, by rw [List.append_nil]⟩, ⟨r1.xm, r1.xs, r1.m, hK ▸ e1, r1.xt⟩, h1, fun d k' hR v H' af er => ?_⟩
  have z := Rep.afterM (s := s.at k1) r1 ⟨af.sub, af.old, af.m, af.tb⟩
  exact fn d k' hR v H' z.1 (a1.trans z.2) (hK ▸ er)
end
@[reducible] def init (hm : Bool) (n : Nat) (ds : List D) : List Sl := (match hm with | true => [Sl.mst] | false => []) ++ ds.map .dat ++ List.replicate (n - (ds.length + (match hm with | true => 1 | false => 0))) .no
theorem start_get {N : List PySem.Str} {vs : List V} {i : Nat} {v : V} (h : vs[i]? = some v) : (L2.start N vs)[i]? = some (some v) := by
  unfold L2.start
  rw [List.getElem?_append_left (by rw [List.length_map]; exact (List.getElem?_eq_some_iff.mp h).1), List.getElem?_map, h]
  rfl
theorem init_rep {c : C} {hm : Bool} {N : List PySem.Str} {vs ws : List V} {ds : List D} {H : Hp} {k : Nat} (hc : c.H0 = H) (h : match hm with | true => ∃ m, c.M = some m ∧ vs = .ref m.pm :: ws | false => c.M = none ∧ vs = ws)
    (a : Ahd c.K c.M c.X0 H k ws ds) (hl : vs.length ≤ N.length) : Rep c ⟨c.X0, init hm N.length ds, k⟩ (L2.start N vs) H := by
  subst hc
  have len := a.args.len
  have dat : ∀ (i : Nat) (o : Nat) (x : Sl), (∀ (j : Nat) (w : V), ws[j]? = some w → vs[j + o]? = some w) → (ds.map Sl.dat ++ List.replicate (N.length - (ds.length + o)) Sl.no)[i]? = some x → SlOk c c.X0 c.H0 (L2.start N vs)[i + o]? x := fun i o x hw e => by
    by_cases hi : i < ds.length
    · rw [List.getElem?_append_left (by rw [List.length_map]; exact hi), List.getElem?_map] at e
      obtain ⟨d, hd⟩ : ∃ d, ds[i]? = some d := ⟨ds[i], by simp [hi]⟩
      rw [hd] at e
      cases e
      obtain ⟨w, h1, h2⟩ := a.args.getD hd
      exact ⟨w, start_get (hw i w h1), h2⟩
    · rw [List.getElem?_append_right (by rw [List.length_map]; omega), List.getElem?_replicate] at e
      split at e
      · cases e; trivial
      · cases e
  refine ⟨Sub.refl _, fun _ _ _ _ => rfl, fun _ h => h, a.xm, a.xs, a.m, fun i x e => ?_, fun i j p q as bs e1 _ _ => ?_, ?_, .refl, a.xt⟩
  · cases hm with
    | false =>
      obtain ⟨_, rfl⟩ := h
      exact dat i 0 x (fun j w h => h) (by simpa [init] using e)
    | true =>
      obtain ⟨m, hM, rfl⟩ := h
      cases i with
      | zero =>
        have e' : Sl.mst = x := Option.some.inj e
        subst e'
        exact ⟨m, hM, start_get rfl⟩
      | succ i => exact dat i 1 x (fun j w h => h) (by simpa [init] using e)
  · have e1 : (init hm N.length ds)[i]? = some (.own p as) := e1
    unfold init at e1
    have mem := List.mem_of_getElem? e1
    cases hm <;> simp at mem
  · show (init hm N.length ds).length = (L2.start N vs).length
    unfold init L2.start
    cases hm with
    | false =>
      obtain ⟨_, rfl⟩ := h
      simp
      omega
    | true =>
      obtain ⟨m, hM, rfl⟩ := h
      simp at hl
      simp
      omega
section
variable {P : Program} {w : World} {K : Frag} {mg : PySem.Str → Option Value} {base : Heap}
theorem okD {x qual : PySem.Str} {st : Stmt} {f : Addr} {fd : FuncData} {N ps : List PySem.Str} {k : Nat} {hm : Bool} {sp : DSp} (F : Fun K x qual st f fd) (Sc : FnScope N ps (defScope st)) (ow : List Nat)
    (len : ∀ ds k R, sp ds k R → ds.length + (match hm with | true => 1 | false => 0) = ps.length)
    (body : ∃ t : DS, (∀ (cdv : Value) (A : Around) (outer : List Env) (s : Shared) (H : Hp) (E : XK) (M : Option Mc) (X0 : List Addr), Room k (A.deeper (PyProof.Rows.envOfC qual (defScope st) s.heap.objs.size f cdv)) →
        PSs (cxOf CX0 P w K mg base N qual (defScope st) f cdv A outer s H E).nox (defBody st) (LS ⟨K, M, X0, H, ow⟩ t)) ∧
      ∀ X ds k R, sp ds k R → t { nx := fun s => R .non s.k, rt := R } ⟨X, init hm N.length ds, k⟩) :
    FnOk P w K mg base CX0 (k + 1) f fd ps (spD K hm sp) := by
  obtain ⟨t, hb, hr⟩ := body
  have lens : ∀ vs H Q E, spD K hm sp vs H Q E → vs.length = ps.length := fun vs H Q E ⟨M, X0, k, ds, ws, R, h1, a, h2, h3⟩ => by
    have q := len ds k R h2
    have l := a.args.len
    cases hm with
    | false =>
      obtain ⟨_, rfl⟩ := h1
      rw [l]
      exact q
    | true =>
      obtain ⟨m, _, rfl⟩ := h1
      rw [List.length_cons, l]
      exact q
  refine F.ok Sc lens fun cdv A outer s H vs Q E room h => ?_
  have hl := lens _ _ _ _ h
  obtain ⟨M, X0, k', ds, ws, R, h1, a, h2, h3⟩ := h
  have hpl : ps.length ≤ N.length := by have := congrArg List.length Sc.pre; rw [List.length_take] at this; omega
  refine ⟨LS ⟨K, M, X0, H, ow⟩ t, hb cdv A outer s H E M X0 room, ⟨X0, init hm N.length ds, k'⟩, _, init_rep (c := ⟨K, M, X0, H, ow⟩) rfl h1 a (by omega), hr X0 ds k' R h2, ?_⟩
  have fin : ∀ d k v H', Fin ⟨K, M, X0, H, ow⟩ H' k → Rl K (wo H' (Ml M ++ X0)) v d → R d k → Q v H' := fun d k v H' fi e r => h3 d k r v H' ⟨fi.sub, fun b hb => fi.old b hb (a.xm b hb) (a.xs b hb), fi.m, fi.tb⟩ e
  exact ⟨fun s' σ' H' r _ q => fin .non s'.k .non H' r.fin .non q, fun _ _ _ _ _ q => q, fun _ _ _ _ _ q => q, fun d k v H' fi e r => fin d k v H' fi e r⟩
end
end DL
namespace DL
open PySem L2
open PySem.W (Frag)
inductive KvA (K : Frag) (H : Hp) : List (Int × V) → List (Int × D) → Prop
  | nil : KvA K H [] []
  | cons {k : Int} {v : V} {vs : List (Int × V)} {d : D} {ds : List (Int × D)} : Rl K H v d → KvA K H vs ds → KvA K H ((k, v) :: vs) ((k, d) :: ds)
def lookI {α : Type} (l : List (Int × α)) (i : Int) : Option α := (l.find? fun p => decide (p.1 = i)).map (·.2)
theorem KvA.look {K : Frag} {H : Hp} : ∀ {vs : List (Int × V)} {ds : List (Int × D)} {i : Int}, KvA K H vs ds → (∀ d, lookI ds i = some d → ∃ v, lookI vs i = some v ∧ Rl K H v d) ∧ (lookI ds i = none → lookI vs i = none)
  | _, _, i, .nil => ⟨fun d h => (by cases h), fun _ => rfl⟩
  | _, _, i, .cons (k := k) (v := v) (d := e) r rr => by
    have ih := KvA.look (i := i) rr
    unfold lookI at ih ⊢
    by_cases hk : k = i
    · subst hk
      simp only [List.find?_cons, decide_true, Option.map_some, Option.some.injEq]
      exact ⟨fun d h => (by subst h; exact ⟨v, rfl, r⟩), fun h => (by cases h)⟩
    · simp only [List.find?_cons, decide_eq_false hk]
      exact ih
structure KdAt (P : Program) (w : World) (K : Frag) (mg : PySem.Str → Option Value) (x : PySem.Str) (kvs : List (Int × D)) : Prop where
  ex : ∃ (a : Addr) (us : List (Int × Value)) (vs : List (Int × V)), mg x = some (.ref a) ∧ (a == sysModules) = false ∧ (∀ h : Heap, K.In h → h.DictOf (intKind P w) a us) ∧ KV vs us ∧ ∀ H, KvA K H vs kvs
theorem KV.look {vs : List (Int × V)} {us : List (Int × Value)} {i : Int} (r : KV vs us) : RelO (lookI vs i) (valueAt us i) := by
  have h : RelO ((vs.find? fun kv => decide (kv.1 = i)).map (·.2)) (valueAt us i) := by
    unfold valueAt
    induction r with
    | nil => trivial
    | @cons p q _ _ h t ih =>
      obtain ⟨a, b⟩ := p
      obtain ⟨a', b'⟩ := q
      obtain ⟨h1, h2⟩ := h
      have h1 : a = a' := h1
      subst h1
      by_cases e : a = i
      · simp only [List.find?_cons, decide_eq_true e]
        exact h2
      · simp only [List.find?_cons, decide_eq_false e]
        exact ih
  exact h
abbrev dKd (kvs : List (Int × D)) (t : DE) : DE := fun s Q => t s fun d k => ∃ i e, d = .int i ∧ lookI kvs i = some e ∧ Q e k
abbrev dKdIn (kvs : List (Int × D)) (t : DE) : DE := fun s Q => t s fun d k => ∃ i, d = .int i ∧ Q (.bl (lookI kvs i).isSome) k
section
variable {X : Cx} {c : C} {pos : Pos} {x : PySem.Str} {kvs : List (Int × D)}
theorem pd_kd (hK : c.K = X.K) (h : KdAt X.prog X.w X.K X.mg x kvs) {pn : Pos} {i : Expr} {t : DE} (ht : PE X i (LE c t)) (hs : NoSl i := by exact fun _ _ => rfl) (hg : Gl X x := by rfl) (hdb : (x == ("__debug__" : PySem.Str)) = false := by decide) :
    PE X (.Subscript (.Name x pn) i pos) (LE c (dKd kvs t)) := by
  obtain ⟨a, us, vs, hm, low, hd, kv, rl⟩ := h.ex
  refine ⟨fun pins s σ H Q I ⟨st, R, rp, q, f⟩ => ?_⟩
  refine subD_of PySem.F.slot_dict_getitem.lookup hs ?_
  refine ld_glob I hg hm ?_ hdb
  refine thn (ht.run pins s σ H _ I ⟨st, _, rp, q, fun d k h v H1 r1 a1 e1 => (⟨d, k, h, r1, a1, e1⟩ : (fun v H1 => ∃ d k, (∃ i e, d = D.int i ∧ lookI kvs i = some e ∧ R e k) ∧ Rep c (st.at k) σ H1 ∧ AdvE c st.X H H1 ∧ Rl c.K (c.hid st.X H1) v d) v H1)⟩) fun u s1 ⟨v, H1, I1, rv, d, k, ⟨j, e, hj, he, hR⟩, r1, a1, e1⟩ => ?_
  subst hj
  cases e1.intE
  obtain ⟨t', rfl⟩ := rv
  have dd := hd s1.heap I1.kIn
  obtain ⟨v, hv, hr⟩ := ((rl (c.hid st.X H1)).look (i := j)).1 e he
  obtain ⟨u, hu, ru⟩ := RelO.some_of (v := v) (o := valueAt us j) (by rw [← hv]; exact KV.look kv)
  exact ⟨dd.typeIs, wpAny_getItem_of (knd := intKind X.prog X.w) (k := j) (by simp [intKind, Value.isInt]) dd.mapOf hu ⟨v, H1, I1.tok _, ru, f e k hR v H1 r1 a1 (hK ▸ hr)⟩⟩
theorem pd_inkd (h : KdAt X.prog X.w X.K X.mg x kvs) {pn : Pos} {i : Expr} {t : DE} (ht : PE X i (LE c t)) (hg : Gl X x := by rfl) (hdb : (x == ("__debug__" : PySem.Str)) = false := by decide) (hb : behindInMarks .In (Expr.Name x pn) = false := by rfl) :
    PE X (.Compare i [.In] [.Name x pn] pos) (LE c (dKdIn kvs t)) := by
  obtain ⟨a, us, vs, hm, low, hd, kv, rl⟩ := h.ex
  refine pe_cmp (op := .In) ⟨fun pins s σ H Q I ⟨st, R, rp, q, f⟩ => ?_⟩ hb
  refine thn (ht.run pins s σ H _ I ⟨st, _, rp, q, fun d k h v H1 r1 a1 e1 => (⟨d, k, h, r1, a1, e1⟩ : (fun v H1 => ∃ d k, (∃ i, d = D.int i ∧ R (.bl (lookI kvs i).isSome) k) ∧ Rep c (st.at k) σ H1 ∧ AdvE c st.X H H1 ∧ Rl c.K (c.hid st.X H1) v d) v H1)⟩) fun u s1 ⟨v, H1, I1, rv, d, k, ⟨j, hj, hR⟩, r1, a1, e1⟩ => ?_
  subst hj
  cases e1.intE
  obtain ⟨t', rfl⟩ := rv
  refine ld_glob I1 hg hm ?_ hdb
  have dd := hd s1.heap I1.kIn
  refine wpAny_in_of (knd := intKind X.prog X.w) (k := j) (by simp [intKind, Value.isInt]) low dd.mapOf ?_
  have z := KV.look (i := j) kv
  have y := (rl (c.hid st.X H1)).look (i := j)
  have eq : (valueAt us j).isSome = (lookI kvs j).isSome := by
    cases h1 : lookI kvs j with
    | none =>
      rw [y.2 h1] at z
      cases h2 : valueAt us j with
      | none => rfl
      | some u => rw [h2] at z; exact z.elim
    | some d =>
      obtain ⟨v, h3, _⟩ := y.1 d h1
      rw [h3] at z
      cases h2 : valueAt us j with
      | none => rw [h2] at z; exact z.elim
      | some u => rfl
  rw [eq]
  exact ⟨.bl _, H1, I1.tok _, rfl, f _ k hR _ H1 r1 a1 (.bl _)⟩
end
end DL
namespace DL
open PySem L2
open PySem.W (Frag)
theorem KvA.mono {K : Frag} {A B : Hp} (x : Sub A B) : ∀ {vs : List (Int × V)} {ds : List (Int × D)}, KvA K A vs ds → KvA K B vs ds
  | _, _, .nil => .nil
  | _, _, .cons h r => .cons (h.mono x) (KvA.mono x r)
def D.tname : D → Option String
  | .non => some "NoneType"
  | .bl _ => some "bool"
  | .int _ => some "int"
  | .str _ => some "str"
  | .lst _ => some "list"
  | .tup _ => some "tuple"
  | .dic => some "dict"
  | .ins _ _ _ => none
  | .exc _ _ _ => none
abbrev dIsi (T : String) (t : DE) : DE := fun s Q => t s fun d k => ∃ n b, d.tname = some n ∧ kitB n T = some b ∧ Q (.bl b) k
abbrev dIsi2 (T U : String) (t : DE) : DE := fun s Q => t s fun d k => ∃ n a b, d.tname = some n ∧ kitB n T = some a ∧ kitB n U = some b ∧ Q (.bl (a || b)) k
theorem Rl.ty {K : Frag} {H : Hp} {v : V} {d : D} {n : String} (h : Rl K H v d) (e : d.tname = some n) : TyX K H v (.type n) := by
  cases h with
  | non => cases e; exact .base .non
  | bl b => cases e; exact .base (.bl b)
  | int i => cases e; exact .base (.int i)
  | str x => cases e; exact .base (.str x)
  | lst h _ => cases e; exact .base (.lst h)
  | tup h _ =>
    cases e
    rcases h with (h | ⟨o, h⟩) | ⟨o, its, m, h1, h2, _⟩
    · exact .base (.tup h)
    · exact .fTuple h
    · exact .kTuple h1 h2
  | dic h => cases e; exact .base (.dK h)
  | ins _ _ _ => cases e
  | exc _ _ _ _ => cases e
section
variable {X : Cx} {c : C} {pos p : Pos}
theorem pd_isi (hK : c.K = X.K) (hm : X.mg "isinstance" = none) {T : PySem.Str} {Tn : String} (hT : X.mg T = none) (hb : bootBuiltins T = some (.type Tn)) {e : Expr} {t : DE} {pt : Pos} (h : PE X e (LE c t)) (hg : Gl X "isinstance" := by rfl) (hgT : Gl X T := by rfl) (hnT : T ≠ "__name__" := by decide) (hdT : (T == ("__debug__" : PySem.Str)) = false := by decide)
    (hs : starEach [e, Expr.Name T pt] X.env = (false, eval e X.env) :: starEach [Expr.Name T pt] X.env := by rfl) (hs2 : starEach [Expr.Name T pt] X.env = (false, eval (Expr.Name T pt) X.env) :: starEach [] X.env := by rfl) (hp : (backTo pos (starEach [Expr.Name T pt] X.env)).any (·.1) = false := by rfl) :
    PE X (.Call (.Name "isinstance" p) [e, .Name T pt] [] pos) (LE c (dIsi Tn t)) :=
  (pe_callB call_isi hg hm PyProof.Rows.boot_isinstance (pa_cons h (pa_cons (pe_bltn (v := .ty Tn) hgT hT hb rfl hnT hdT) pa_nil hs2) hs) (he := hs) (hpl := hp)).weak fun σ H Q ⟨s, R, rp, q, f⟩ => ⟨s, _, rp, q, fun d k ⟨n, b, h1, h2, h3⟩ v H1 r1 a1 e1 =>
    ⟨v, _, _, _, b, rfl, .ty Tn, hK ▸ Rl.ty e1.all h1, kit_ty h2, f _ k h3 _ H1 r1 a1 (.bl _)⟩⟩
theorem pd_isi2 (hK : c.K = X.K) (hm : X.mg "isinstance" = none) {T U : PySem.Str} {Tn Un : String} (hT : X.mg T = none) (hU : X.mg U = none) (hb : bootBuiltins T = some (.type Tn)) (hbU : bootBuiltins U = some (.type Un)) {e : Expr} {t : DE} {pt pu ptt : Pos} {kk} (h : PE X e (LE c t)) (hg : Gl X "isinstance" := by rfl) (hgT : Gl X T := by rfl) (hgU : Gl X U := by rfl) (hnT : T ≠ "__name__" := by decide) (hdT : (T == ("__debug__" : PySem.Str)) = false := by decide) (hnU : U ≠ "__name__" := by decide) (hdU : (U == ("__debug__" : PySem.Str)) = false := by decide)
    (hsT : starEach [Expr.Name T pt, Expr.Name U pu] X.env = (false, eval (Expr.Name T pt) X.env) :: starEach [Expr.Name U pu] X.env := by rfl) (hsU : starEach [Expr.Name U pu] X.env = (false, eval (Expr.Name U pu) X.env) :: starEach [] X.env := by rfl)
    (hs : starEach [e, Expr.Tuple [Expr.Name T pt, Expr.Name U pu] kk ptt] X.env = (false, eval e X.env) :: starEach [Expr.Tuple [Expr.Name T pt, Expr.Name U pu] kk ptt] X.env := by rfl) (hs2 : starEach [Expr.Tuple [Expr.Name T pt, Expr.Name U pu] kk ptt] X.env = (false, eval (Expr.Tuple [Expr.Name T pt, Expr.Name U pu] kk ptt) X.env) :: starEach [] X.env := by rfl) (hp : (backTo pos (starEach [Expr.Tuple [Expr.Name T pt, Expr.Name U pu] kk ptt] X.env)).any (·.1) = false := by rfl) :
    PE X (.Call (.Name "isinstance" p) [e, .Tuple [.Name T pt, .Name U pu] kk ptt] [] pos) (LE c (dIsi2 Tn Un t)) :=
  (pe_callB call_isiT hg hm PyProof.Rows.boot_isinstance (pa_cons h (pa_cons (pe_tup (pa_cons (pe_bltn (v := .ty Tn) hgT hT hb rfl hnT hdT) (pa_cons (pe_bltn (v := .ty Un) hgU hU hbU rfl hnU hdU) pa_nil hsU) hsT)) pa_nil hs2) hs) (he := hs) (hpl := hp)).weak fun σ H Q ⟨s, R, rp, q, f⟩ => ⟨s, _, rp, q, fun d k ⟨n, a, b, h1, h2, h2', h3⟩ v H1 r1 a1 e1 => by
    refine ⟨by show 2 ≤ sizeLine; decide, fun tp hn => ?_⟩
    have nw := r1.new (o := .tup [.ty Tn, .ty Un]) hn
    refine ⟨v, tp, _, _, [.type Tn, .type Un], a || b, rfl, upd_same, .cons (.ty Tn) (.cons (.ty Un) .nil), hK ▸ Rl.ty (e1.mono nw.2.sub).all h1, ?_, f _ k h3 _ _ nw.1 (a1.trans nw.2) (.bl _)⟩
    refine kitAny_cons (kit_ty h2) (fun ha => ?_) (fun ha => by rw [ha]; rfl)
    rw [ha]
    exact kitAny_cons (kit_ty h2') (fun hb => by rw [hb]; exact kitAny_nil) (fun hb => by rw [hb]; rfl)⟩
end
end DL
namespace PySem
open Builtin
set_option maxHeartbeats 1000000 in
theorem enT_new {v : Value} {o : Obj} {Hh : Heap → Prop} (B : Begins v o Hh) : Meets (Builtin.«enumerate.__new__» ⟨[.type "enumerate", v], []⟩) (fun _ R s => Hh s.heap ∧
    R (.ok (.ret (.ref (s.heap.push o).objs.size))) { s with heap := (s.heap.push o).push { cls := .type "enumerate", data := .fields #[.none, .bool false, .ref s.heap.objs.size, rawInt 0, .none, .none] } }) := by
  refine .of_wp fun P' w' A' R s' hh => ?_
  obtain ⟨hp, gg, dd, tt, oo⟩ := s'
  obtain ⟨h0, hR⟩ := hh
  have sb := sub_enumerate
  have start : ∀ {A2 : Around} {E2 : Value → Shared → Prop} {Q2 : Value → Shared → Prop}, Q2 (.ref hp.objs.size) ⟨hp.push o, gg, dd, tt, oo⟩ → wpAny (model P' w') A2 (pyIter v) Q2 E2 ⟨hp, gg, dd, tt, oo⟩ := fun q => B.iter P' w' _ _ ⟨hp, gg, dd, tt, oo⟩ _ h0 q
  wp_walk using start
  refine wpAny_stack_any fun _ => wpAny_pure ?_
  split <;> first
    | (rename_i c _ _ _ _ _
       cases (c == Value.type "enumerate") <;> (wp_walk using start; exact ⟨_, rfl, hR⟩))
    | (wp_walk using start; exact ⟨_, rfl, hR⟩)
theorem enT_call {prog : Program} {w : World} {A : Around} {E : Value → Shared → Prop} {s : Shared} {v : Value} {o : Obj} {Hh : Heap → Prop} {Q : Value → Shared → Prop} (B : Begins v o Hh) (h0 : Hh s.heap)
    (fin : ∀ h', IsEnum h' (s.heap.objs.size + 1) s.heap.objs.size 0 .none → h'.get? s.heap.objs.size = some o → (∀ b u, s.heap.get? b = some u → h'.get? b = some u) → Q (.ref (s.heap.objs.size + 1)) { s with heap := h' }) :
    wpAny (model prog w) A (call (.type "enumerate") [v]) Q E s := by
  refine callType_new F.called_enumerate (by decide) (F.typeCall_enumerate_1 v) (F.newCall_enumerate_1 v) (fun obj => F.args_object_init_2 obj v) F.entry_enumerate_new (enT_new B) ⟨h0, ?_⟩
  have sz : (s.heap.push o).objs.size = s.heap.objs.size + 1 := Heap.size_push ..
  have en := Heap.get?_push_size (s.heap.push o) (o := { cls := .type "enumerate", data := .fields #[.none, .bool false, .ref s.heap.objs.size, rawInt 0, .none, .none] }) rfl
  rw [sz] at en
  refine ⟨⟨_, by rw [sz]; exact en, rfl⟩, ?_⟩
  rw [sz]
  exact fin _ en (Heap.get?_push_of_some _ (Heap.get?_push_size _ B.free)) fun b u e => Heap.get?_push_of_some _ (Heap.get?_push_of_some _ e)
end PySem
namespace DL
open PySem L2
open PySem.W (Frag)
def ItT (K : Frag) (a : Addr) : It :=
  ⟨fun i H => ∃ (xs : List V) (x : V), SqT K H a xs ∧ xs[i]? = some x,
   fun i H v H' => ∃ T x, v = .ref T ∧ H T = none ∧ H' = upd H T (.tup [.int (i : Nat), x]) ∧ ∀ xs, SqT K H a xs → xs[i]? = some x,
   fun i H => ∃ xs : List V, SqT K H a xs ∧ xs.length ≤ i⟩
theorem turn_enT {P : Program} {w : World} {K : Frag} {elts : List Expr} {kk : Nat} {tpos : Pos} (a e it : Addr) :
    Turn P w K (.Tuple elts kk tpos) (ItT K a) [e, it] e (fun i h => (∃ old, IsEnum h e it ((i : Nat) : Int) old) ∧ h.IsTupleIter it a i ∧ e ≠ it ∧ e ≠ a ∧ a ≠ it) where
  mem := List.mem_cons_self
  obj := fun i h ⟨⟨old, he⟩, ⟨o, ho, _, hd⟩, _⟩ b hb => by
    rcases List.mem_cons.mp hb with rfl | hb
    · exact ⟨_, he, fun v q => nomatch q⟩
    · rcases List.mem_cons.mp hb with rfl | hb
      · exact ⟨o, ho, fun v q => by rw [hd] at q; cases q⟩
      · cases hb
  keep := fun i h h' ⟨⟨old, he⟩, hi, hne⟩ k => ⟨⟨old, k e List.mem_cons_self _ he⟩, hi.at fun o q => k it (List.mem_cons_of_mem _ List.mem_cons_self) o q, hne⟩
  item := by
    intro X e1 e2 e3 hc i pins s σ H E I hf st hg
    subst e1 e2 e3
    obtain ⟨⟨old, he⟩, hit, ne1, ne2, ne3⟩ := st
    obtain ⟨xs, x, hq, hx⟩ := hg
    obtain ⟨its, rv, p, hz⟩ := I.tuple hq
    obtain ⟨u, hu, ru⟩ := rv.get hx
    have lt1 : e < s.heap.objs.size := Heap.lt_size he
    have lt2 : it < s.heap.objs.size := by obtain ⟨_, q, _⟩ := hit; exact Heap.lt_size q
    have hi : i < its.toArray.size := by rw [List.size_toArray]; exact (List.getElem?_eq_some_iff.mp hu).1
    have mem : ∀ b, b ∈ [e, it] → b = e ∨ b = it := fun b hb => by simpa using hb
    refine wpAny_pyNext_enum_itemD (Draws.tuple (A := X.A.in1) (show X.A.in1.handled = none from I.ok.hd hc) it a ne3 its.toArray) he ⟨hit, (show s.heap.IsTuple a its.toArray from p)⟩ hi ne1 (by simp [ne1, ne2]) fun y h' tk hy ho hst hT hsz hk => ?_
    have hy : y = u := by
      have : its.toArray[i]? = some u := by simpa using hu
      rw [this] at hy
      exact (Option.some.inj hy).symm
    subst hy
    refine ⟨_, rfl, wpAny_letOwnedTupleGo_enum (s := { s with heap := h', toks := tk + 1 }) ho fun h2 he2 sb => ?_⟩
    have kT : h2.get? s.heap.objs.size = some { cls := .type "tuple", data := .seq #[.int i tk, y] } := (sb.2 _ (Nat.ne_of_gt lt1)).trans hT
    have new : ObjOk X.prog X.w (upd H s.heap.objs.size (.tup [.int (i : Nat), x])) h2 s.heap.objs.size (.tup [.int (i : Nat), x]) :=
      ⟨by show 2 ≤ sizeLine; decide, [.int i tk, y], .cons ⟨_, rfl⟩ (.cons ru .nil), ⟨_, kT, rfl, _, rfl⟩⟩
    have I1 : Inv X pins σ (upd H s.heap.objs.size (.tup [.int (i : Nat), x])) { s with heap := h2, toks := tk + 1 } :=
      I.turnedNew (ch := [e, it]) (fun b ob hb q => (sb.2 b fun z => hb (by simp [z])).trans (hk b ob (fun z => hb (by simp [z])) (fun z => hb (by simp [z])) q)) hf (Nat.le_refl _) new
    refine ⟨.ref s.heap.objs.size, _, I1, rfl, ⟨_, x, rfl, I.hok.fresh (Nat.le_refl _), rfl, fun ys hy => by rw [I.tuple_inj hy hq]; exact hx⟩, ⟨⟨y, ?_⟩, hst.1.at fun o q => (sb.2 it (Ne.symm ne1)).trans q, ne1, ne2, ne3⟩, fun b hb => ?_⟩
    · have e1 : ((i + 1 : Nat) : Int) = (i : Int) + 1 := by omega
      rw [e1]
      exact he2
    · have hb' : b < s.heap.objs.size := by
        rcases mem b hb with rfl | rfl
        · exact lt1
        · exact lt2
      rw [upd_ne (Nat.ne_of_lt hb')]
      exact (hf b hb).1
  done := by
    intro X e1 e2 e3 hc i pins s σ H E I hf st hg
    subst e1 e2 e3
    obtain ⟨⟨old, he⟩, hit, ne1, ne2, ne3⟩ := st
    obtain ⟨xs, hq, hx⟩ := hg
    obtain ⟨its, rv, p, hz⟩ := I.tuple hq
    obtain ⟨f0, f1, f2, f3, f4, f5⟩ := hf it (List.mem_cons_of_mem _ List.mem_cons_self)
    have hl := rv.length
    have hh : X.A.in1.handled = none := I.ok.hd hc
    have no : its.toArray[i]? = none := by
      rw [List.getElem?_toArray, List.getElem?_eq_none_iff]
      omega
    have D' : Draws X.prog X.w X.A.in1 it [it, a] i (fun _ _ => False) (fun j h => j = i ∧ h.IsTupleIter it a i ∧ h.IsTuple a its.toArray) :=
      { live := fun _ _ st => let ⟨o, ho, _⟩ := st.2.1; ⟨o, ho⟩
        frame := fun _ _ _ st hk => ⟨st.1, st.2.1.at fun o e => hk it (by simp) o e, st.2.2.at fun o e => hk a (by simp) o e⟩
        item := fun j s Q E hj st _ => absurd st.1 (Nat.ne_of_lt hj)
        done := fun s Q E st hE => wpAny_nextOf_tuple_end hh st.2.1 st.2.2 no hE }
    exact wpAny_pyNext_enum_endD D' he ⟨rfl, hit, (show s.heap.IsTuple a its.toArray from p)⟩ fun h' eb => ⟨rfl, I.turned (t' := s.toks) (fun b o hb q => eb b o hb q) f0 f1 f3 f4 f5⟩
  self := fun A i s Q E st h => wpAny_pyIter_enum st.1.choose_spec h
theorem Yl.enT {c : C} {s0 : S} {Hs : Hp} {K : Frag} {a : Addr} {vs : List V} {ds : List D} (hK : c.K = K) (h : SqT c.K (c.hid s0.X Hs) a vs) (r : RlA c.K (c.hid s0.X Hs) vs ds) : Yl c s0 Hs (ItT K a) (enumD 0 ds) := fun i s σ H rp ad => by
  subst hK
  have h1 : SqT c.K H a vs := (ad.trans (wo_sub _ _)).st h
  have r1 := r.mono ad
  refine ⟨fun hl => ⟨vs, h1, by rw [r.len, ← enum_len ds 0]; exact hl⟩, fun d hd => ?_⟩
  obtain ⟨e, he, rfl⟩ := enum_at hd
  obtain ⟨v, hv, hr⟩ := r1.getD he
  refine ⟨⟨vs, v, h1, hv⟩, fun x H' ⟨T, y, e1, e2, e3, e4⟩ => ?_⟩
  subst e1 e3
  have e5 := e4 vs h1
  rw [hv] at e5
  cases e5
  rw [Nat.zero_add]
  exact Yl.pair rp e2 (.int _) hr
abbrev iEnS (t : DE) : DI := fun s Q => t s fun d k => ∃ ds, d.items = some ds ∧ Q (enumD 0 ds) k
section
variable {X : Cx} {c : C} {tg : Expr}
theorem pid_enumS (hK : c.K = X.K) {e : Expr} {t : DE} {p pos tpos : Pos} {elts : List Expr} {kk : Nat} (hm : X.mg "enumerate" = none) (h : PE X e (LE c t)) (hg : Gl X "enumerate" := by rfl) (hs : starEach [e] X.env = [(false, eval e X.env)] := by rfl) :
    PI X (.Tuple elts kk tpos) (.Call (.Name "enumerate" p) [e] [] pos) (LI c (iEnS t)) := by
  refine ⟨fun pins s σ H R I ⟨st, Z, rp, q, f⟩ => ?_⟩
  refine PyProof.Rows.Call_ (ld_blt I hg hm PyProof.Rows.boot_enumerate (PyProof.Rows.callWith_type1 (thn ((pad_cons h pad_nil hs).run pos pins s σ H (fun vs H1 => ∃ v d k ds, vs = [v] ∧ d.items = some ds ∧ Z (enumD 0 ds) k ∧ Rep c (st.at k) σ H1 ∧ AdvE c st.X H H1 ∧ Rl c.K (c.hid st.X H1) v d) I
    ⟨st, fun ds k => (match ds with | [d] => ∃ ds, d.items = some ds ∧ Z (enumD 0 ds) k | _ => False), rp, q, fun ds k hq vs H1 r1 a1 e1 => by
      cases e1 with
      | nil => exact hq.elim
      | cons e1 e2 =>
        cases e2 with
        | cons _ _ => exact hq.elim
        | nil =>
          obtain ⟨ds, h1, h2⟩ := hq
          exact ⟨_, _, k, ds, rfl, h1, h2, r1, a1, e1⟩⟩) fun us s1 ⟨vs, H1, I1, r1, v, d, k, ds, ev, hd, hz, rp1, a1, e1⟩ => ?_) hs rfl))
  subst ev
  cases r1 with
  | cons rv rr =>
    cases rr
    have fresh : ∀ b, s1.heap.objs.size ≤ b → H1 b = none := fun b hb => I1.hok.fresh hb
    cases d <;> first | cases hd | skip
    · obtain ⟨a, ws, rfl, h1, r⟩ := e1.lstE
      cases (show _ = Value.ref a from rv)
      have h1' : SqL X.K H1 a ws := SqL.of (wo_sub _ _ _ _ h1)
      obtain ⟨its, rv', p', hz'⟩ := I1.list h1'
      refine enT_call (begins_list a its.toArray) p'.isList fun h' he ho hk => wpAny_pyIter_enum he ?_
      have I2 : Inv X pins σ H1 { s1 with heap := h' } := I1.kept (t' := s1.toks) hk
      refine ⟨_, [s1.heap.objs.size + 1, s1.heap.objs.size], _, _, H1, rfl, I2, turn_enum a (s1.heap.objs.size + 1) s1.heap.objs.size, ⟨⟨.none, he⟩, ⟨_, ho, rfl, rfl⟩, Nat.succ_ne_self _⟩, fun b hb => ?_, f _ k hz _ H1 rp1 a1 (Yl.enum hK h1 r)⟩
      have hle : s1.heap.objs.size ≤ b := by
        rcases (by simpa using hb : b = s1.heap.objs.size + 1 ∨ b = s1.heap.objs.size) with z | z
        · rw [z]; exact Nat.le_succ _
        · rw [z]; exact Nat.le_refl _
      exact I1.fpOk hle (fresh b hle)
    · obtain ⟨a, ws, rfl, h1, r⟩ := e1.tupE
      cases (show _ = Value.ref a from rv)
      have h1' : SqT X.K H1 a ws := hK ▸ (wo_sub _ _).st h1
      obtain ⟨its, rv', p', hz'⟩ := I1.tuple h1'
      have lt : a < s1.heap.objs.size := p'.lt
      refine enT_call (begins_tuple a its.toArray) (show s1.heap.IsTuple a its.toArray from p') fun h' he ho hk => wpAny_pyIter_enum he ?_
      have I2 : Inv X pins σ H1 { s1 with heap := h' } := I1.kept (t' := s1.toks) hk
      refine ⟨_, [s1.heap.objs.size + 1, s1.heap.objs.size], _, _, H1, rfl, I2, turn_enT a (s1.heap.objs.size + 1) s1.heap.objs.size, ⟨⟨.none, he⟩, ⟨_, ho, rfl, rfl⟩, Nat.succ_ne_self _, Nat.ne_of_gt (Nat.lt_succ_of_lt lt), Nat.ne_of_lt lt⟩, fun b hb => ?_, f _ k hz _ H1 rp1 a1 (Yl.enT hK h1 r)⟩
      have hle : s1.heap.objs.size ≤ b := by
        rcases (by simpa using hb : b = s1.heap.objs.size + 1 ∨ b = s1.heap.objs.size) with z | z
        · rw [z]; exact Nat.le_succ _
        · rw [z]; exact Nat.le_refl _
      exact I1.fpOk hle (fresh b hle)
end
end DL
namespace DL
open PySem L2
open PySem.W (Frag)
abbrev iScr (i : Nat) : DI := fun s Q => ∃ ns : List Int, s.sl[i]? = some (.scr ns) ∧ Q (ns.map .int) s.k
abbrev iScE (i : Nat) : DI := fun s Q => ∃ ns : List Int, s.sl[i]? = some (.scr ns) ∧ Q (enumD 0 (ns.map .int)) s.k
theorem Yl.scr {c : C} {s0 : S} {Hs : Hp} {K : Frag} {a : Addr} {vs : List V} {ds : List D} (hK : c.K = K) (h : SqL c.K (c.hid s0.X Hs) a vs) (r : RlA c.K (c.hid s0.X Hs) vs ds) : Yl c s0 Hs (Itl K a) ds := fun i s σ H rp ad => by
  have h1 : SqL K H a vs := hK ▸ (ad.trans (wo_sub _ _)).sl h
  have r1 := r.mono ad
  refine ⟨fun hl => ⟨vs, h1, by rw [r.len]; exact hl⟩, fun d hd => ?_⟩
  obtain ⟨v, hv, hr⟩ := r1.getD hd
  refine ⟨⟨vs, v, h1, hv⟩, fun x H' ⟨e1, e2⟩ => ?_⟩
  subst e1
  have e3 := e2 vs h1
  rw [hv] at e3
  cases e3
  exact ⟨rp, AdvE.refl, hr⟩
theorem Yl.scrE {c : C} {s0 : S} {Hs : Hp} {K : Frag} {a : Addr} {vs : List V} {ds : List D} (hK : c.K = K) (h : SqL c.K (c.hid s0.X Hs) a vs) (r : RlA c.K (c.hid s0.X Hs) vs ds) : Yl c s0 Hs (Ite K a) (enumD 0 ds) := fun i s σ H rp ad => by
  have h1 : SqL K H a vs := hK ▸ (ad.trans (wo_sub _ _)).sl h
  have r1 := r.mono ad
  refine ⟨fun hl => ⟨vs, h1, by rw [r.len, ← enum_len ds 0]; exact hl⟩, fun d hd => ?_⟩
  obtain ⟨e, he, rfl⟩ := enum_at hd
  obtain ⟨v, hv, hr⟩ := r1.getD he
  refine ⟨⟨vs, v, h1, hv⟩, fun x H' ⟨T, y, e1, e2, e3, e4⟩ => ?_⟩
  subst e1 e3
  have e5 := e4 vs h1
  rw [hv] at e5
  cases e5
  rw [Nat.zero_add]
  exact Yl.pair rp e2 (.int _) hr
section
variable {X : Cx} {c : C} {tg : Expr}
theorem pid_scr (hK : c.K = X.K) (i : Nat) {x : PySem.Str} {pn : Pos} (hN : X.N[i]? = some x := by rfl) (hv : Vis X.env.scope x := by first | exact Or.inl rfl | exact Or.inr (Or.inl rfl) | exact Or.inr (Or.inr rfl)) (hd : (x == ("__debug__" : PySem.Str)) = false := by decide) (hcd : (x == ("__classdict__" : PySem.Str)) = false := by decide) :
    PI X tg (.Name x pn) (LI c (iScr i)) :=
  PI.weak (pi_list (pe_var hN hv hd hcd)) fun σ H R ⟨s, Z, rp, ⟨ns, hs, hz⟩, f⟩ => by
    obtain ⟨a, e, h⟩ := rp.slot i _ hs
    exact ⟨_, e, a, rfl, ⟨_, hK ▸ (wo_sub _ _).sl h⟩, f _ s.k hz _ H rp AdvE.refl (Yl.scr hK h (RlA.ints ns))⟩
theorem pid_scrE (hK : c.K = X.K) (i : Nat) {x : PySem.Str} {pn p pos tpos : Pos} {elts : List Expr} {kk : Nat} (hm : X.mg "enumerate" = none) (hN : X.N[i]? = some x := by rfl) (hv : Vis X.env.scope x := by first | exact Or.inl rfl | exact Or.inr (Or.inl rfl) | exact Or.inr (Or.inr rfl)) (hd : (x == ("__debug__" : PySem.Str)) = false := by decide) (hcd : (x == ("__classdict__" : PySem.Str)) = false := by decide)
    (hg : Gl X "enumerate" := by rfl) (hs : starEach [Expr.Name x pn] X.env = [(false, eval (Expr.Name x pn) X.env)] := by rfl) : PI X (.Tuple elts kk tpos) (.Call (.Name "enumerate" p) [.Name x pn] [] pos) (LI c (iScE i)) :=
  PI.weak (pi_enum hg hm (pa_cons (pe_var hN hv hd hcd) pa_nil hs) hs) fun σ H R ⟨s, Z, rp, ⟨ns, hs, hz⟩, f⟩ => by
    obtain ⟨a, e, h⟩ := rp.slot i _ hs
    exact ⟨_, e, a, _, rfl, hK ▸ (wo_sub _ _).sl h, f _ s.k hz _ H rp AdvE.refl (Yl.scrE hK h (RlA.ints ns))⟩
end
def spS (K : Frag) (sp : List Int → (D → Prop) → Prop) : Sp := fun vs H Q _ => ∃ (a : Addr) (ns : List Int) (R : D → Prop), vs = [.ref a] ∧ SqL K H a (ns.map V.int) ∧ sp ns R ∧ ∀ d, R d → ∀ v H', Sub (wo H []) (wo H' []) → TbK H H' → Rl K H' v d → Q v H'
theorem Sub.out {A B : Hp} (s : Sub (wo A []) (wo B [])) {b : Addr} {o : HO} (h : A b = some o) (n : NoTb o := by intro _ z; cases z) : B b = some o := (wo_ne (s b o (wo_of (by simp) h n))).2
theorem sl_in {K : Frag} {A : Hp} {a : Addr} {vs : List V} (h : SqL K A a vs) : SqL K (wo A []) a vs := by
  rcases h with (h | ⟨o, h⟩) | h
  · exact .inl (.inl (wo_of (by simp) h))
  · exact .inl (.inr ⟨o, wo_of (by simp) h⟩)
  · exact .inr h
section
variable {P : Program} {w : World} {K : Frag} {mg : PySem.Str → Option Value} {base : Heap}
theorem okS {x qual : PySem.Str} {st : Stmt} {f : Addr} {fd : FuncData} {N : List PySem.Str} {y : PySem.Str} {k : Nat} {sp : List Int → (D → Prop) → Prop} (F : Fun K x qual st f fd) (Sc : FnScope N [y] (defScope st)) (ow : List Nat)
    (body : ∃ t : DS, (∀ (cdv : Value) (A : Around) (outer : List Env) (s : Shared) (H : Hp) (E : XK), Room k (A.deeper (PyProof.Rows.envOfC qual (defScope st) s.heap.objs.size f cdv)) →
        PSs (cxOf CX0 P w K mg base N qual (defScope st) f cdv A outer s H E).nox (defBody st) (LS ⟨K, none, [], H, ow⟩ t)) ∧
      ∀ ns R, sp ns R → t { nx := fun _ => R .non, rt := fun d _ => R d } ⟨[], .scr ns :: List.replicate (N.length - 1) .no, 0⟩) :
    FnOk P w K mg base CX0 (k + 1) f fd [y] (spS K sp) := by
  obtain ⟨t, hb, hr⟩ := body
  refine F.ok Sc (fun vs H Q E ⟨a, ns, R, h, _⟩ => by rw [h]; rfl) fun cdv A outer s H vs Q E room h => ?_
  obtain ⟨a, ns, R, rfl, ha, hsp, fin⟩ := h
  refine ⟨LS ⟨K, none, [], H, ow⟩ t, hb cdv A outer s H E room, ⟨[], .scr ns :: List.replicate (N.length - 1) .no, 0⟩, _, ?_, hr ns R hsp, ?_⟩
  · refine ⟨Sub.refl _, fun _ h => (nomatch h), fun _ h => h, fun _ h => (nomatch h), fun _ h => (nomatch h), trivial, fun i z e => ?_, fun i j p q ds es e _ _ => ?_, ?_, .refl, fun _ h => (nomatch h)⟩
    · cases i with
      | zero =>
        obtain rfl : Sl.scr ns = z := Option.some.inj e
        exact ⟨a, start_get rfl, sl_in ha⟩
      | succ i =>
        have e : (List.replicate (N.length - 1) Sl.no)[i]? = some z := e
        rw [List.getElem?_replicate] at e
        split at e
        · cases e; trivial
        · cases e
    · have e : (Sl.scr ns :: List.replicate (N.length - 1) Sl.no)[i]? = some (.own p ds) := e
      have mem := List.mem_of_getElem? e
      simp at mem
    · have : 1 ≤ N.length := by have := congrArg List.length Sc.pre; rw [List.length_take] at this; simp at this; omega
      show (Sl.scr ns :: List.replicate (N.length - 1) Sl.no).length = (L2.start N [.ref a]).length
      unfold L2.start
      simp
      
  · have go : ∀ d v H', Sub (wo H []) (wo H' []) → TbK H H' → Rl K (wo H' []) v d → R d → Q v H' := fun d v H' sb tb e r => fin d r v H' sb tb (e.mono (wo_sub _ _))
    exact ⟨fun s' σ' H' r _ q => go .non .non H' (r.sub.trans r.sub0) r.tb .non q, fun _ _ _ _ _ q => q, fun _ _ _ _ _ q => q, fun d k v H' fi e r => go d v H' fi.sub fi.tb e r⟩
end
end DL
namespace DL
open PySem L2
open PySem.W (Frag)
abbrev fldD {α : Type} (ns : List PySem.Str) (xs : List α) (f : PySem.Str) : Option α := (ns.zip xs).lookup f
theorem fld_rl {K : Frag} {H : Hp} {f : PySem.Str} : ∀ {ns : List PySem.Str} {vs : List V} {ds : List D} {d : D}, RlA K H vs ds → fldD ns ds f = some d → ∃ v, fldD ns vs f = some v ∧ Rl K H v d
  | [], _, _, _, _, h => by simp [fldD] at h
  | n :: ns, _, _, _, .nil, h => by simp [fldD] at h
  | n :: ns, v :: vs, d' :: ds, d, .cons r q, h => by
    unfold fldD at h ⊢
    rw [List.zip_cons_cons, List.lookup_cons] at h ⊢
    cases e : (f == n) with
    | true => rw [e] at h; cases h; exact ⟨v, rfl, r⟩
    | false => rw [e] at h; exact fld_rl q h
theorem Rl.insE {K : Frag} {H : Hp} {v : V} {C : Addr} {ns : List PySem.Str} {ds : List D} (h : Rl K H v (.ins C ns ds)) : ∃ a dx vs, v = .ref a ∧ H a = some (.ins C dx (ns.zip vs)) ∧ ns.length = vs.length ∧ RlA K H vs ds := by
  cases h with
  | ins h l r => exact ⟨_, _, _, rfl, h, l, r⟩
abbrev dFld (C : Addr) (f : PySem.Str) (t : DE) : DE := fun s Q => t s fun d k => ∃ ns xs e, d = .ins C ns xs ∧ fldD ns xs f = some e ∧ Q e k
section
variable {X : Cx} {c : C} {pos p : Pos} {e : Expr} {t : DE}
theorem pd_fld (hK : c.K = X.K) {C : Addr} {f : PySem.Str} (hC : Cls X.K C) (hn : NoAttr X.K C f) (ha : PE X e (LE c t)) (hb : attributeBase e f X.env (eval e X.env) = eval e X.env := by rfl) : PE X (.Attribute e f pos) (LE c (dFld C f t)) :=
  (pe_fld ha hb).weak fun σ H Q ⟨s, R, rp, q, fn⟩ => ⟨s, _, rp, q, fun d k ⟨ns, xs, e', hd, he, hR⟩ v H1 r1 a1 e1 => by
    subst hd
    obtain ⟨a, dx, vs, rfl, h1, l, r⟩ := e1.insE
    obtain ⟨u, h2, h3⟩ := fld_rl r he
    exact ⟨a, C, dx, _, u, rfl, wo_sub _ _ _ _ h1, hC, hn, h2, fn e' k hR u H1 r1 a1 h3⟩⟩
end
section
variable {X : Cx}
theorem call_lenO {C f : Addr} {fd : FuncData} {ps : List PySem.Str} {sp : Sp} {k : Nat} (hm : Meth X.K C "__len__" f) (F : FnOk X.prog X.w X.K X.mg X.base CX0 k f fd ps sp) (hr : Room (k + 1) X.A) (hb : Binds X.K fd ps []) :
    CallR X (.builtin "len") (fun xs H Q => ∃ a dx fs, xs = [.ref a] ∧ H a = some (.ins C dx fs) ∧ sp [.ref a] H (fun v H' => ∃ n : Nat, v = .int n ∧ n < 2 ^ 63 ∧ Q (.int n) H') E0) := by
  intro pins s σ H xs us Q I r ⟨a, dx, fs, hx, ea, h⟩
  subst hx
  obtain ⟨u, rfl, rx⟩ := vals1 r
  obtain rfl : u = Value.ref a := rx
  obtain ⟨mA, O, _, _, _, _⟩ := ins_get I.hok ea
  obtain ⟨od, J, _⟩ := O.look
  refine Calls.call_function_entry kind_len plain_len entry_len (args_len1 _) ?_
  unfold Builtin.«len»
  refine wpAny_bind (wpAny_pure ?_)
  refine wpAny_bind (PySem.W.special_fn I.kIn J hm.at_ (beq_iff_eq.mp hm.fn) ?_)
  have hl : ([Value.ref a] ++ []).length = ps.length := F.len _ _ _ _ h
  refine wpAny_call (codeAny_mono (F.run X.A.in1 X.stack s H ⟨[.ref a], []⟩ [.ref a] [.ref a] _ E0 hr.in1 I.env0.in1 (hb s [.ref a] I.kIn hl) (.cons rfl .nil) h) fun r s' hq => ?_)
  cases r with
  | error e => exact hq.elim
  | ok fl =>
    cases fl with
    | next => exact hq.elim
    | brk => exact hq.elim
    | cont => exact hq.elim
    | ret u =>
      obtain ⟨v, H', I', rv, n, rfl, hn, hQ⟩ := I.after hq
      obtain ⟨t, rfl⟩ := rv
      refine wpAny_bind (wpAny_holding (wpAny_pure ?_))
      refine wpAny_bind (wpAny_letGo ?_)
      show wpAny _ _ (if (n : Int) < 0 then _ else _) _ _ _
      rw [if_neg (by omega)]
      show wpAny _ _ (if (n : Int) ≥ 2 ^ 63 then _ else _) _ _ _
      rw [if_neg (by omega)]
      exact wpAny_bind (wpAny_mkInt (wpAny_pure ⟨_, rfl, .int n, H', I'.tok _, ⟨_, rfl⟩, hQ⟩))
end
structure LenD (P : Program) (w : World) (K : Frag) (mg : PySem.Str → Option Value) (base : Heap) (k : Nat) (C : Addr) (sp : DSp) : Prop where
  ex : ∃ f fd ps, Meth K C "__len__" f ∧ FnOk P w K mg base CX0 k f fd ps (spD K false sp) ∧ Binds K fd ps []
abbrev dLenO (C : Addr) (sp : DSp) (t : DE) : DE := fun s Q => t s fun d k => (∃ ns xs, d = .ins C ns xs) ∧ sp [d] 0 fun r _ => ∃ n : Nat, r = .int n ∧ n < 2 ^ 63 ∧ Q (.int n) k
section
variable {X : Cx} {c : C} {k j : Nat} {p pos : Pos} {e : Expr} {t : DE} {Cl : Addr} {sp : DSp}
theorem pd_lenO (hK : c.K = X.K) (hm : X.mg "len" = none) (L : LenD X.prog X.w X.K X.mg X.base k Cl sp) (hr : Room j X.A) (hk : k + 1 ≤ j) (he : PE X e (LE c t)) (hg : Gl X "len" := by rfl) (hs : starEach [e] X.env = (false, eval e X.env) :: starEach [] X.env := by rfl) (hpl : (backTo pos (starEach [] X.env)).any (·.1) = false := by rfl) :
    PE X (.Call (.Name "len" p) [e] [] pos) (LE c (dLenO Cl sp t)) := by
  obtain ⟨f, fd, ps, M, F, B⟩ := L.ex
  refine (pe_callB (call_lenO M F (hr.mono hk) B) hg hm PySem.boot_len (pa_cons he pa_nil hs) (he := hs) (hpl := hpl)).weak fun σ H Q ⟨s, R, rp, q, fn⟩ => ⟨s, _, rp, q, fun d k1 ⟨⟨ns, xs, hd⟩, hsp⟩ v H1 r1 a1 e1 => ?_⟩
  subst hd
  obtain ⟨a, dx, us, rfl, h1, l, r⟩ := e1.insE
  refine ⟨a, dx, _, rfl, wo_sub _ _ _ _ h1, ?_⟩
  refine ⟨none, Ml c.M ++ s.X, 0, _, _, _, ⟨rfl, rfl⟩, ⟨fun a _ => by simp [Ml], r1.allHid, trivial, hK ▸ RlA.cons e1 .nil, r1.allTb⟩, hsp, fun d k' ⟨n, hd, hn, hR⟩ v H' af er => ?_⟩
  subst hd
  cases er.intE
  have z := Rep.after (s := s.at k1) r1 ⟨af.sub, af.old, af.m, af.tb⟩
  exact ⟨n, rfl, hn, fn _ k1 hR _ H' z.1 (a1.trans z.2) (.int _)⟩
end
def spI (K : Frag) (C : Addr) (sp : DSp) : Sp := fun vs H Q _ => ∃ (X0 : List Addr) (x dx : Addr) (ds : List D) (ws : List V) (R : D → Nat → Prop), vs = .ref x :: ws ∧ H x = some (.ins C dx []) ∧ H dx = some (.own x) ∧ dx ≠ x ∧ (∀ a ∈ X0, H a ≠ none) ∧ (∀ a ∈ X0, ∀ ps, H a ≠ some (.tbl ps)) ∧ x ∉ X0 ∧ dx ∉ X0 ∧
  RlA K (wo H (x :: X0)) ws ds ∧ sp ds 0 R ∧ ∀ d k', R d k' → ∀ H', Sub (wo H (x :: X0)) (wo H' X0) → (∀ a ∈ X0, H' a = H a) → TbK H H' → Rl K (wo H' X0) (.ref x) d → Q .non H'
structure MakD (P : Program) (w : World) (K : Frag) (mg : PySem.Str → Option Value) (base : Heap) (k : Nat) (x : PySem.Str) (C : Addr) (sp : DSp) : Prop where
  ex : ∃ f fd ps, Mk K C f ∧ FnOk P w K mg base CX0 k f fd ps (spI K C sp) ∧ mg x = some (.ref C) ∧ Binds K fd ps []
section
variable {X : Cx} {c : C} {k j : Nat} {p pos : Pos} {e : Expr} {es : List Expr} {t : DA} {Cl : Addr} {x : PySem.Str} {sp : DSp}
theorem pd_make (hK : c.K = X.K) (F : MakD X.prog X.w X.K X.mg X.base k x Cl sp) (hr : Room j X.A) (hk : k + 1 ≤ j) (ha : PA X (e :: es) (LA c t)) (hg : Gl X x := by rfl) (hdb : (x == ("__debug__" : PySem.Str)) = false := by decide) (he : starEach (e :: es) X.env = (false, eval e X.env) :: starEach es X.env := by rfl) (hpl : (backTo pos (starEach es X.env)).any (·.1) = false := by rfl) :
    PE X (.Call (.Name x p) (e :: es) [] pos) (LE c (dCall sp t)) := by
  obtain ⟨f, fd, ps, M, G, hm, b⟩ := F.ex
  refine (pe_make M G (hr.mono hk) hg hm b .nil pass0 ha hdb he hpl).weak fun σ H Q ⟨s, R, rp, q, fn⟩ => ⟨s, _, rp, q, fun ds k1 h1 vs H1 r1 a1 e1 y dx hy hd ne => ?_⟩
  have al := r1.allHid
  have ny : y ∉ Ml c.M ++ s.X := fun z => al y z hy
  have nd : dx ∉ Ml c.M ++ s.X := fun z => al dx z hd
  have sb : Sub (wo H1 (Ml c.M ++ s.X)) (wo (upd (upd H1 dx (.own y)) y (.ins Cl dx [])) (y :: (Ml c.M ++ s.X))) := fun a o h => by
    obtain ⟨n, h⟩ := wo_ne h
    have n1 : a ≠ y := fun z => by rw [z, hy] at h; cases h
    have n2 : a ≠ dx := fun z => by rw [z, hd] at h; cases h
    exact wo_of (fun z => (List.mem_cons.mp z).elim n1 n) (by rw [upd_ne n1, upd_ne n2]; exact h)
  have od : ∀ a ∈ Ml c.M ++ s.X, (upd (upd H1 dx (.own y)) y (.ins Cl dx [])) a = H1 a := fun a h => by
    rw [upd_ne (fun z => ny (by rw [← z]; exact h)), upd_ne (fun z => nd (by rw [← z]; exact h))]
  refine ⟨Ml c.M ++ s.X, y, dx, ds, vs, _, by rw [List.append_nil], upd_same, by rw [upd_ne ne]; exact upd_same, ne, fun a h => by rw [od a h]; exact al a h, fun a h => by rw [od a h]; exact r1.allTb a h, ny, nd, (hK ▸ e1 : RlA X.K _ vs ds).mono sb, h1, fun d k' hR H' s2 o2 tb er => ⟨rfl, ?_⟩⟩
  have z := Rep.after (s := s.at k1) r1 (H' := H') (k := 0) ⟨sb.trans s2, fun a h => (o2 a h).trans (od a h), trivial, (TbK.new hd).trans ((TbK.new (by rw [upd_ne ne.symm]; exact hy)).trans tb)⟩
  exact fn d k1 hR _ H' z.1 (a1.trans z.2) (hK ▸ er)
end
end DL
namespace DL
open PySem L2
open PySem.W (Frag)
end DL
namespace BW
open PySem L2 DL
abbrev Mat := List (List Int)
abbrev tI (xs : List Int) : D := .tup (xs.map .int)
abbrev lI (xs : List Int) : D := .lst (xs.map .int)
abbrev lM (T : Mat) : D := .lst (T.map lI)
abbrev tM (T : Mat) : D := .tup (T.map tI)
def at2 (T : Mat) (i j : Nat) : Int := (T.getD i []).getD j 0
def wts (k : Int) : Int × Int := if k = 2 then (0, 0) else if k = 3 then (1, 1) else if k = 4 then (1, 2) else if k = 6 then (1, 3) else (2, 2)
def wt (T : Mat) (i j : Nat) : Int := if i = j then -2 else if i < j then (wts (at2 T i j)).1 else (wts (at2 T i j)).2
structure Tab (T : Mat) : Prop where
  lo : 1 ≤ T.length
  hi : T.length ≤ 6
  sq : ∀ i, i < T.length → (T.getD i []).length = T.length
  dg : ∀ i, i < T.length → at2 T i i = 1
  of : ∀ i j, i < T.length → j < T.length → i ≠ j → at2 T i j = 2 ∨ at2 T i j = 3 ∨ at2 T i j = 4 ∨ at2 T i j = 6 ∨ at2 T i j = 0
  sy : ∀ i j, i < T.length → j < T.length → at2 T i j = at2 T j i
def press (T : Mat) (row : List Int) (i : Nat) : List Int := (List.range T.length).map fun j => row.getD j 0 + wt T i j * row.getD i 0
def wtr (T : Mat) (i : Nat) : List Int := (List.range T.length).map (wt T i)
def wtM (T : Mat) : Mat := (List.range T.length).map (wtr T)
abbrev bnd (BC : Addr) (T : Mat) : D := .ins BC ["table", "weights"] [tM T, tM (wtM T)]
abbrev ix (a : Int) : Nat := (a - 1).toNat
def Wd (n : Nat) (w : List Int) : Prop := ∀ a ∈ w, 1 ≤ a ∧ a ≤ n
def one (T : Mat) : List Int := List.replicate T.length 1
def row (T : Mat) (w : List Int) : List Int := w.foldl (fun r a => press T r (ix a)) (one T)
def fall (r : List Int) : List Int := ((List.range r.length).filter fun i => decide (r.getD i 0 < 0)).map fun (i : Nat) => (i : Int) + 1
def wd (T : Mat) : Nat → List Int → List Int × List Int
  | 0, r => ([], r)
  | n + 1, r => match fall r with
    | [] => ([], r)
    | a :: _ => (a :: (wd T n (press T r (ix a))).1, (wd T n (press T r (ix a))).2)
def D.isI : D → Bool
  | .int _ => true
  | _ => false
def D.isL (n : Int) : D → Bool
  | .int a => decide (1 ≤ a) && decide (a ≤ n)
  | _ => false
def sp_is_whole : DSp := fun ds k R => ∃ d, ds = [d] ∧ d.tname.isSome = true ∧ R (.bl (D.isI d)) k
def sp_is_letter : DSp := fun ds k R => ∃ d n, ds = [d, .int n] ∧ d.tname.isSome = true ∧ R (.bl (D.isL n d)) k
def sp_can_stand : DSp := fun ds k R => ∃ T a b, ds = [lM T, .int a, .int b] ∧ Tab T ∧ 1 ≤ a ∧ a ≤ T.length ∧ 1 ≤ b ∧ b ≤ T.length ∧ R (.bl true) k
def sp_check_shape : DSp := fun ds k R => ∃ T, ds = [lM T] ∧ Tab T ∧ R .non k
def sp_check_table : DSp := fun ds k R => ∃ T, ds = [lM T] ∧ Tab T ∧ R .non k
def sp_weight_of : DSp := fun ds k R => ∃ T a b, ds = [tM T, .int a, .int b] ∧ Tab T ∧ 1 ≤ a ∧ a ≤ T.length ∧ 1 ≤ b ∧ b ≤ T.length ∧ R (.int (wt T (ix a) (ix b))) k
def sp_weights_from : DSp := fun ds k R => ∃ T a, ds = [tM T, .int a] ∧ Tab T ∧ 1 ≤ a ∧ a ≤ T.length ∧ R (tI (wtr T (ix a))) k
def sp_Bonds (BC : Addr) : DSp := fun ds k R => ∃ T, ds = [lM T] ∧ Tab T ∧ R (bnd BC T) k
def sp_len_Bonds (BC : Addr) : DSp := fun ds k R => ∃ T, ds = [bnd BC T] ∧ T.length ≤ 6 ∧ R (.int T.length) k
def isW (d : D) (w : List Int) : Prop := d = lI w ∨ d = tI w
def sp_as_word : DSp := fun ds k R => ∃ d w, ∃ n : Nat, ds = [d, .int n] ∧ isW d w ∧ w.length ≤ 60 ∧ Wd n w ∧ R (tI w) k
def sp_first_row (BC : Addr) : DSp := fun ds k R => ∃ T, ds = [bnd BC T] ∧ Tab T ∧ R (tI (one T)) k
def sp_pressed (BC : Addr) : DSp := fun ds k R => ∃ T r a, ds = [bnd BC T, tI r, .int a] ∧ Tab T ∧ r.length = T.length ∧ 1 ≤ a ∧ a ≤ T.length ∧ R (tI (press T r (ix a))) k
def sp_row_behind (BC : Addr) : DSp := fun ds k R => ∃ T d w, ds = [bnd BC T, d] ∧ Tab T ∧ isW d w ∧ Wd T.length w ∧ R (tI (row T w)) k
def sp_row_of (BC : Addr) : DSp := fun ds k R => ∃ T d w, ds = [bnd BC T, d] ∧ Tab T ∧ isW d w ∧ w.length ≤ 60 ∧ Wd T.length w ∧ R (tI (row T w)) k
def sp_alike (BC : Addr) : DSp := fun ds k R => ∃ T d e u w, ds = [bnd BC T, d, e] ∧ Tab T ∧ isW d u ∧ u.length ≤ 60 ∧ Wd T.length u ∧ isW e w ∧ w.length ≤ 60 ∧ Wd T.length w ∧ R (.bl (decide (row T u = row T w))) k
def sp__law_mixed : DSp := fun ds k R => ∃ a n : Int, ds = [.int a, .int n] ∧ 0 ≤ a ∧ a < 1000000000000000 ∧ 0 ≤ n ∧ n < 1000000000000 ∧ ∀ r, 0 ≤ r → r < 306783377 → R (.int r) k
def sp__law_draw : DSp := fun ds k R => ∃ z : Int, ds = [.int z] ∧ 0 < z ∧ z < 2 ^ 200 ∧ k < 100000000000 ∧ ∀ d, 0 ≤ d → d < z → R (.int d) (k + 1)
def alt (a b : Int) (n : Nat) : List Int := (List.range n).map fun i => if i % 2 = 0 then a else b
end BW
namespace TT
def sm (f : Nat → Int) : Nat → Int
  | 0 => 0
  | n + 1 => sm f n + f n
theorem sm_congr {f g : Nat → Int} : ∀ {n : Nat}, (∀ j, j < n → f j = g j) → sm f n = sm g n
  | 0, _ => rfl
  | n + 1, h => by
    show sm f n + f n = sm g n + g n
    rw [sm_congr (fun j hj => h j (Nat.lt_succ_of_lt hj)), h n (Nat.lt_succ_self n)]
theorem sm_add {f g : Nat → Int} : ∀ {n : Nat}, sm (fun j => f j + g j) n = sm f n + sm g n
  | 0 => rfl
  | n + 1 => by
    show sm (fun j => f j + g j) n + (f n + g n) = (sm f n + f n) + (sm g n + g n)
    rw [sm_add]; omega
theorem sm_mul {f : Nat → Int} {c : Int} : ∀ {n : Nat}, sm (fun j => c * f j) n = c * sm f n
  | 0 => (Int.mul_zero c).symm
  | n + 1 => by
    show sm (fun j => c * f j) n + c * f n = c * (sm f n + f n)
    rw [sm_mul, Int.mul_add]
theorem sm_zero {f : Nat → Int} : ∀ {n : Nat}, (∀ j, j < n → f j = 0) → sm f n = 0
  | 0, _ => rfl
  | n + 1, h => by
    show sm f n + f n = 0
    rw [sm_zero (fun j hj => h j (Nat.lt_succ_of_lt hj)), h n (Nat.lt_succ_self n)]; rfl
theorem sm_one {f : Nat → Int} {b : Nat} : ∀ {n : Nat}, b < n → (∀ j, j < n → j ≠ b → f j = 0) → sm f n = f b
  | 0, h, _ => absurd h (Nat.not_lt_zero b)
  | n + 1, h, z => by
    show sm f n + f n = f b
    by_cases e : b = n
    · subst e
      rw [sm_zero (fun j hj => z j (Nat.lt_succ_of_lt hj) (Nat.ne_of_lt hj)), Int.zero_add]
    · rw [sm_one (by omega) (fun j hj => z j (Nat.lt_succ_of_lt hj)), z n (Nat.lt_succ_self n) (fun q => e q.symm), Int.add_zero]
abbrev Vec := Nat → Int
structure Car (n : Nat) (W : Nat → Nat → Int) : Prop where
  dg : ∀ i, i < n → W i i = -2
  of : ∀ i j, i < n → j < n → i ≠ j → (W i j = 0 ∧ W j i = 0) ∨ (W i j = 1 ∧ W j i = 1) ∨ (W i j = 1 ∧ W j i = 2) ∨ (W i j = 2 ∧ W j i = 1) ∨ (W i j = 1 ∧ W j i = 3) ∨ (W i j = 3 ∧ W j i = 1) ∨ (W i j = 2 ∧ W j i = 2)
def eb (a : Nat) : Vec := fun j => if j = a then 1 else 0
def mv (x : Vec) (t : Int) (b : Nat) : Vec := fun j => if j = b then x j + t else x j
def pr (n : Nat) (W : Nat → Nat → Int) (b : Nat) (x : Vec) : Int := sm (fun a => W b a * x a) n
def sg (n : Nat) (W : Nat → Nat → Int) (b : Nat) (x : Vec) : Vec := mv x (pr n W b x) b
theorem mv_dif {x : Vec} {t : Int} {b j : Nat} : mv x t b j = x j + t * eb b j := by
  unfold mv eb
  by_cases h : j = b
  · rw [if_pos h, if_pos h, Int.mul_one]
  · rw [if_neg h, if_neg h, Int.mul_zero, Int.add_zero]
theorem sm_eb {f : Nat → Int} {b n : Nat} (h : b < n) : sm (fun j => f j * eb b j) n = f b := by
  rw [sm_one h (fun j _ e => by unfold eb; rw [if_neg e, Int.mul_zero])]
  unfold eb
  rw [if_pos rfl, Int.mul_one]
section
variable {n : Nat} {W : Nat → Nat → Int}
theorem pr_mv {c b : Nat} {x : Vec} {t : Int} (hb : b < n) : pr n W c (mv x t b) = pr n W c x + W c b * t := by
  unfold pr
  rw [sm_congr (g := fun a => W c a * x a + t * (W c a * eb b a)) (fun j _ => by rw [mv_dif, Int.mul_add, Int.mul_left_comm]), sm_add, sm_mul, sm_eb hb, Int.mul_comm t]
theorem sm_mv {b : Nat} {x : Vec} {t : Int} (hb : b < n) : sm (mv x t b) n = sm x n + t := by
  rw [sm_congr (g := fun a => x a + t * (1 * eb b a)) (fun j _ => by rw [mv_dif, Int.one_mul]), sm_add, sm_mul, sm_eb (f := fun _ => 1) hb, Int.mul_one]
theorem pr_eb {a b : Nat} (ha : a < n) : pr n W b (eb a) = W b a := sm_eb ha
theorem mv_mv {x : Vec} {s t : Int} {b : Nat} : mv (mv x s b) t b = mv x (s + t) b := by
  funext j
  unfold mv
  by_cases h : j = b
  · rw [if_pos h, if_pos h, if_pos h, Int.add_assoc]
  · rw [if_neg h, if_neg h, if_neg h]
theorem mv_zero {x : Vec} {b : Nat} : mv x 0 b = x := by
  funext j
  unfold mv
  by_cases h : j = b
  · rw [if_pos h, Int.add_zero]
  · rw [if_neg h]
theorem mv_comm {x : Vec} {s t : Int} {b c : Nat} (h : b ≠ c) : mv (mv x s b) t c = mv (mv x t c) s b := by
  funext j
  unfold mv
  by_cases h1 : j = b
  · subst h1
    rw [if_neg h, if_pos rfl, if_pos rfl, if_neg h]
  · by_cases h2 : j = c
    · subst h2
      rw [if_pos rfl, if_neg h1, if_neg h1, if_pos rfl]
    · rw [if_neg h2, if_neg h1, if_neg h1, if_neg h2]
theorem sg_sg (C : Car n W) {b : Nat} {x : Vec} (hb : b < n) : sg n W b (sg n W b x) = x := by
  unfold sg
  rw [pr_mv hb, C.dg b hb, mv_mv]
  rw [show pr n W b x + (pr n W b x + -2 * pr n W b x) = 0 by omega, mv_zero]
theorem pr_sg (C : Car n W) {b : Nat} {x : Vec} (hb : b < n) : pr n W b (sg n W b x) = - pr n W b x := by
  unfold sg
  rw [pr_mv hb, C.dg b hb]
  omega
inductive Pos (n : Nat) (W : Nat → Nat → Int) : Vec → Prop
  | eb {a : Nat} : a < n → Pos n W (eb a)
  | up {x : Vec} {b : Nat} : Pos n W x → b < n → 0 < pr n W b x → Pos n W (sg n W b x)
theorem Pos.nn {x : Vec} (h : Pos n W x) : ∀ j, 0 ≤ x j := by
  induction h with
  | eb ha => intro j; unfold TT.eb; split <;> decide
  | up h hb hp ih =>
    intro j
    have := ih j
    unfold sg mv
    split <;> omega
theorem Pos.ht {x : Vec} (h : Pos n W x) : 1 ≤ sm x n := by
  induction h with
  | eb ha =>
    rename_i a
    have : sm (TT.eb a) n = 1 := by
      have := sm_eb (f := fun _ => (1 : Int)) ha
      simpa using this
    omega
  | up h hb hp ih =>
    unfold sg
    rw [sm_mv hb]
    omega
end
theorem r2_00 {A Eb : Int → Int → Prop} {P Q : Int} (hP : P < 0) (hQ : Q < 0) (R1 : ∀ s t s', A s t → s + t < 0 → P - 2 * s + 0 * t < 0 → s' = s + (P - 2 * s + 0 * t) → (P - 2 * s + 0 * t = -2 ∧ Q + 0 * s - 2 * t = 0 ∧ Eb s t) ∨ A s' t)
    (R2 : ∀ s t t', A s t → s + t < 0 → Q + 0 * s - 2 * t < 0 → t' = t + (Q + 0 * s - 2 * t) → (Q + 0 * s - 2 * t = -2 ∧ P - 2 * s + 0 * t = 0) ∨ A s t') (U1 : ∀ s t s', A s t → 0 < P - 2 * s + 0 * t → s' = s + (P - 2 * s + 0 * t) → A s' t) (U2 : ∀ s t t', A s t → 0 < Q + 0 * s - 2 * t → t' = t + (Q + 0 * s - 2 * t) → A s t') (A0 : A 0 Q) : A P 0 := by
  have h0 : A (0 * P + 0 * Q) (0 * P + 1 * Q) := by rw [show (0 * P + 0 * Q) = (0 : Int) by omega, show (0 * P + 1 * Q) = Q by omega]; exact A0
  rcases R1 (0 * P + 0 * Q) (0 * P + 1 * Q) (1 * P + 0 * Q) h0 (by omega) (by omega) (by omega) with ⟨_, _, _⟩ | h1
  · omega
  have h2 := U2 (1 * P + 0 * Q) (0 * P + 1 * Q) (0 * P + 0 * Q) h1 (by omega) (by omega)
  rw [show (1 * P + 0 * Q) = P by omega, show (0 * P + 0 * Q) = (0 : Int) by omega] at h2
  exact h2
theorem r2_11 {A Eb : Int → Int → Prop} {P Q : Int} (hP : P < 0) (hQ : Q < 0) (R1 : ∀ s t s', A s t → s + t < 0 → P - 2 * s + 1 * t < 0 → s' = s + (P - 2 * s + 1 * t) → (P - 2 * s + 1 * t = -2 ∧ Q + 1 * s - 2 * t = 1 ∧ Eb s t) ∨ A s' t)
    (R2 : ∀ s t t', A s t → s + t < 0 → Q + 1 * s - 2 * t < 0 → t' = t + (Q + 1 * s - 2 * t) → (Q + 1 * s - 2 * t = -2 ∧ P - 2 * s + 1 * t = 1) ∨ A s t') (U1 : ∀ s t s', A s t → 0 < P - 2 * s + 1 * t → s' = s + (P - 2 * s + 1 * t) → A s' t) (U2 : ∀ s t t', A s t → 0 < Q + 1 * s - 2 * t → t' = t + (Q + 1 * s - 2 * t) → A s t') (A0 : A 0 Q) (X : Eb 0 Q → A P 0) : A P 0 := by
  have h0 : A (0 * P + 0 * Q) (0 * P + 1 * Q) := by rw [show (0 * P + 0 * Q) = (0 : Int) by omega, show (0 * P + 1 * Q) = Q by omega]; exact A0
  rcases R1 (0 * P + 0 * Q) (0 * P + 1 * Q) (1 * P + 1 * Q) h0 (by omega) (by omega) (by omega) with ⟨_, _, e⟩ | h1
  · rw [show (0 * P + 0 * Q) = (0 : Int) by omega, show (0 * P + 1 * Q) = Q by omega] at e; exact X e
  rcases R2 (1 * P + 1 * Q) (0 * P + 1 * Q) (1 * P + 1 * Q) h1 (by omega) (by omega) (by omega) with ⟨_, _⟩ | h2
  · omega
  have h3 := U1 (1 * P + 1 * Q) (1 * P + 1 * Q) (1 * P + 0 * Q) h2 (by omega) (by omega)
  have h4 := U2 (1 * P + 0 * Q) (1 * P + 1 * Q) (0 * P + 0 * Q) h3 (by omega) (by omega)
  rw [show (1 * P + 0 * Q) = P by omega, show (0 * P + 0 * Q) = (0 : Int) by omega] at h4
  exact h4
theorem r2_12 {A Eb : Int → Int → Prop} {P Q : Int} (hP : P < 0) (hQ : Q < 0) (R1 : ∀ s t s', A s t → s + t < 0 → P - 2 * s + 1 * t < 0 → s' = s + (P - 2 * s + 1 * t) → (P - 2 * s + 1 * t = -2 ∧ Q + 2 * s - 2 * t = 2 ∧ Eb s t) ∨ A s' t)
    (R2 : ∀ s t t', A s t → s + t < 0 → Q + 2 * s - 2 * t < 0 → t' = t + (Q + 2 * s - 2 * t) → (Q + 2 * s - 2 * t = -2 ∧ P - 2 * s + 1 * t = 1) ∨ A s t') (U1 : ∀ s t s', A s t → 0 < P - 2 * s + 1 * t → s' = s + (P - 2 * s + 1 * t) → A s' t) (U2 : ∀ s t t', A s t → 0 < Q + 2 * s - 2 * t → t' = t + (Q + 2 * s - 2 * t) → A s t') (A0 : A 0 Q) : A P 0 := by
  have h0 : A (0 * P + 0 * Q) (0 * P + 1 * Q) := by rw [show (0 * P + 0 * Q) = (0 : Int) by omega, show (0 * P + 1 * Q) = Q by omega]; exact A0
  rcases R1 (0 * P + 0 * Q) (0 * P + 1 * Q) (1 * P + 1 * Q) h0 (by omega) (by omega) (by omega) with ⟨_, _, _⟩ | h1
  · omega
  rcases R2 (1 * P + 1 * Q) (0 * P + 1 * Q) (2 * P + 2 * Q) h1 (by omega) (by omega) (by omega) with ⟨_, _⟩ | h2
  · omega
  rcases R1 (1 * P + 1 * Q) (2 * P + 2 * Q) (2 * P + 1 * Q) h2 (by omega) (by omega) (by omega) with ⟨_, _, _⟩ | h3
  · omega
  have h4 := U2 (2 * P + 1 * Q) (2 * P + 2 * Q) (2 * P + 1 * Q) h3 (by omega) (by omega)
  have h5 := U1 (2 * P + 1 * Q) (2 * P + 1 * Q) (1 * P + 0 * Q) h4 (by omega) (by omega)
  have h6 := U2 (1 * P + 0 * Q) (2 * P + 1 * Q) (0 * P + 0 * Q) h5 (by omega) (by omega)
  rw [show (1 * P + 0 * Q) = P by omega, show (0 * P + 0 * Q) = (0 : Int) by omega] at h6
  exact h6
theorem r2_21 {A Eb : Int → Int → Prop} {P Q : Int} (hP : P < 0) (hQ : Q < 0) (R1 : ∀ s t s', A s t → s + t < 0 → P - 2 * s + 2 * t < 0 → s' = s + (P - 2 * s + 2 * t) → (P - 2 * s + 2 * t = -2 ∧ Q + 1 * s - 2 * t = 1 ∧ Eb s t) ∨ A s' t)
    (R2 : ∀ s t t', A s t → s + t < 0 → Q + 1 * s - 2 * t < 0 → t' = t + (Q + 1 * s - 2 * t) → (Q + 1 * s - 2 * t = -2 ∧ P - 2 * s + 2 * t = 2) ∨ A s t') (U1 : ∀ s t s', A s t → 0 < P - 2 * s + 2 * t → s' = s + (P - 2 * s + 2 * t) → A s' t) (U2 : ∀ s t t', A s t → 0 < Q + 1 * s - 2 * t → t' = t + (Q + 1 * s - 2 * t) → A s t') (A0 : A 0 Q) : A P 0 := by
  have h0 : A (0 * P + 0 * Q) (0 * P + 1 * Q) := by rw [show (0 * P + 0 * Q) = (0 : Int) by omega, show (0 * P + 1 * Q) = Q by omega]; exact A0
  rcases R1 (0 * P + 0 * Q) (0 * P + 1 * Q) (1 * P + 2 * Q) h0 (by omega) (by omega) (by omega) with ⟨_, _, _⟩ | h1
  · omega
  rcases R2 (1 * P + 2 * Q) (0 * P + 1 * Q) (1 * P + 2 * Q) h1 (by omega) (by omega) (by omega) with ⟨_, _⟩ | h2
  · omega
  rcases R1 (1 * P + 2 * Q) (1 * P + 2 * Q) (2 * P + 2 * Q) h2 (by omega) (by omega) (by omega) with ⟨_, _, _⟩ | h3
  · omega
  have h4 := U2 (2 * P + 2 * Q) (1 * P + 2 * Q) (1 * P + 1 * Q) h3 (by omega) (by omega)
  have h5 := U1 (2 * P + 2 * Q) (1 * P + 1 * Q) (1 * P + 0 * Q) h4 (by omega) (by omega)
  have h6 := U2 (1 * P + 0 * Q) (1 * P + 1 * Q) (0 * P + 0 * Q) h5 (by omega) (by omega)
  rw [show (1 * P + 0 * Q) = P by omega, show (0 * P + 0 * Q) = (0 : Int) by omega] at h6
  exact h6
theorem r2_13 {A Eb : Int → Int → Prop} {P Q : Int} (hP : P < 0) (hQ : Q < 0) (R1 : ∀ s t s', A s t → s + t < 0 → P - 2 * s + 1 * t < 0 → s' = s + (P - 2 * s + 1 * t) → (P - 2 * s + 1 * t = -2 ∧ Q + 3 * s - 2 * t = 3 ∧ Eb s t) ∨ A s' t)
    (R2 : ∀ s t t', A s t → s + t < 0 → Q + 3 * s - 2 * t < 0 → t' = t + (Q + 3 * s - 2 * t) → (Q + 3 * s - 2 * t = -2 ∧ P - 2 * s + 1 * t = 1) ∨ A s t') (U1 : ∀ s t s', A s t → 0 < P - 2 * s + 1 * t → s' = s + (P - 2 * s + 1 * t) → A s' t) (U2 : ∀ s t t', A s t → 0 < Q + 3 * s - 2 * t → t' = t + (Q + 3 * s - 2 * t) → A s t') (A0 : A 0 Q) : A P 0 := by
  have h0 : A (0 * P + 0 * Q) (0 * P + 1 * Q) := by rw [show (0 * P + 0 * Q) = (0 : Int) by omega, show (0 * P + 1 * Q) = Q by omega]; exact A0
  rcases R1 (0 * P + 0 * Q) (0 * P + 1 * Q) (1 * P + 1 * Q) h0 (by omega) (by omega) (by omega) with ⟨_, _, _⟩ | h1
  · omega
  rcases R2 (1 * P + 1 * Q) (0 * P + 1 * Q) (3 * P + 3 * Q) h1 (by omega) (by omega) (by omega) with ⟨_, _⟩ | h2
  · omega
  rcases R1 (1 * P + 1 * Q) (3 * P + 3 * Q) (3 * P + 2 * Q) h2 (by omega) (by omega) (by omega) with ⟨_, _, _⟩ | h3
  · omega
  rcases R2 (3 * P + 2 * Q) (3 * P + 3 * Q) (6 * P + 4 * Q) h3 (by omega) (by omega) (by omega) with ⟨_, _⟩ | h4
  · omega
  rcases R1 (3 * P + 2 * Q) (6 * P + 4 * Q) (4 * P + 2 * Q) h4 (by omega) (by omega) (by omega) with ⟨_, _, _⟩ | h5
  · omega
  have h6 := U2 (4 * P + 2 * Q) (6 * P + 4 * Q) (6 * P + 3 * Q) h5 (by omega) (by omega)
  have h7 := U1 (4 * P + 2 * Q) (6 * P + 3 * Q) (3 * P + 1 * Q) h6 (by omega) (by omega)
  have h8 := U2 (3 * P + 1 * Q) (6 * P + 3 * Q) (3 * P + 1 * Q) h7 (by omega) (by omega)
  have h9 := U1 (3 * P + 1 * Q) (3 * P + 1 * Q) (1 * P + 0 * Q) h8 (by omega) (by omega)
  have h10 := U2 (1 * P + 0 * Q) (3 * P + 1 * Q) (0 * P + 0 * Q) h9 (by omega) (by omega)
  rw [show (1 * P + 0 * Q) = P by omega, show (0 * P + 0 * Q) = (0 : Int) by omega] at h10
  exact h10
theorem r2_31 {A Eb : Int → Int → Prop} {P Q : Int} (hP : P < 0) (hQ : Q < 0) (R1 : ∀ s t s', A s t → s + t < 0 → P - 2 * s + 3 * t < 0 → s' = s + (P - 2 * s + 3 * t) → (P - 2 * s + 3 * t = -2 ∧ Q + 1 * s - 2 * t = 1 ∧ Eb s t) ∨ A s' t)
    (R2 : ∀ s t t', A s t → s + t < 0 → Q + 1 * s - 2 * t < 0 → t' = t + (Q + 1 * s - 2 * t) → (Q + 1 * s - 2 * t = -2 ∧ P - 2 * s + 3 * t = 3) ∨ A s t') (U1 : ∀ s t s', A s t → 0 < P - 2 * s + 3 * t → s' = s + (P - 2 * s + 3 * t) → A s' t) (U2 : ∀ s t t', A s t → 0 < Q + 1 * s - 2 * t → t' = t + (Q + 1 * s - 2 * t) → A s t') (A0 : A 0 Q) : A P 0 := by
  have h0 : A (0 * P + 0 * Q) (0 * P + 1 * Q) := by rw [show (0 * P + 0 * Q) = (0 : Int) by omega, show (0 * P + 1 * Q) = Q by omega]; exact A0
  rcases R1 (0 * P + 0 * Q) (0 * P + 1 * Q) (1 * P + 3 * Q) h0 (by omega) (by omega) (by omega) with ⟨_, _, _⟩ | h1
  · omega
  rcases R2 (1 * P + 3 * Q) (0 * P + 1 * Q) (1 * P + 3 * Q) h1 (by omega) (by omega) (by omega) with ⟨_, _⟩ | h2
  · omega
  rcases R1 (1 * P + 3 * Q) (1 * P + 3 * Q) (3 * P + 6 * Q) h2 (by omega) (by omega) (by omega) with ⟨_, _, _⟩ | h3
  · omega
  rcases R2 (3 * P + 6 * Q) (1 * P + 3 * Q) (2 * P + 4 * Q) h3 (by omega) (by omega) (by omega) with ⟨_, _⟩ | h4
  · omega
  rcases R1 (3 * P + 6 * Q) (2 * P + 4 * Q) (4 * P + 6 * Q) h4 (by omega) (by omega) (by omega) with ⟨_, _, _⟩ | h5
  · omega
  have h6 := U2 (4 * P + 6 * Q) (2 * P + 4 * Q) (2 * P + 3 * Q) h5 (by omega) (by omega)
  have h7 := U1 (4 * P + 6 * Q) (2 * P + 3 * Q) (3 * P + 3 * Q) h6 (by omega) (by omega)
  have h8 := U2 (3 * P + 3 * Q) (2 * P + 3 * Q) (1 * P + 1 * Q) h7 (by omega) (by omega)
  have h9 := U1 (3 * P + 3 * Q) (1 * P + 1 * Q) (1 * P + 0 * Q) h8 (by omega) (by omega)
  have h10 := U2 (1 * P + 0 * Q) (1 * P + 1 * Q) (0 * P + 0 * Q) h9 (by omega) (by omega)
  rw [show (1 * P + 0 * Q) = P by omega, show (0 * P + 0 * Q) = (0 : Int) by omega] at h10
  exact h10
section
variable {n : Nat} {W : Nat → Nat → Int}
theorem W_nn (C : Car n W) {a b : Nat} (ha : a < n) (hb : b < n) (h : a ≠ b) : 0 ≤ W a b := by
  rcases C.of a b ha hb h with h | h | h | h | h | h | h <;> omega
theorem no_inf (C : Car n W) {b c : Nat} (hb : b < n) (hc : c < n) (hbc : W b c = 2) (hcb : W c b = 2) {N : Nat} (IH : ∀ x, Pos n W x → sm x n < N → ∀ b, b < n → x = eb b ∨ Pos n W (sg n W b x)) :
    ∀ (k : Nat) (z : Vec), Pos n W z → sm z n < N → sm z n < k → pr n W b z + pr n W c z < 0 → False
  | 0, z, hz, _, hk, _ => by have := hz.ht; omega
  | k + 1, z, hz, hN, hk, hs => by
    by_cases h : pr n W b z < 0
    · rcases IH z hz hN b hb with e | h2
      · rw [e, pr_eb hb, pr_eb hb, C.dg b hb, hcb] at hs
        omega
      · refine no_inf C hb hc hbc hcb IH k _ h2 ?_ ?_ ?_
        · unfold sg; rw [sm_mv hb]; omega
        · unfold sg; rw [sm_mv hb]; omega
        · rw [pr_sg C hb]
          unfold sg
          rw [pr_mv hb, hcb]
          omega
    · have h : pr n W c z < 0 := by omega
      rcases IH z hz hN c hc with e | h2
      · rw [e, pr_eb hc, pr_eb hc, C.dg c hc, hbc] at hs
        omega
      · refine no_inf C hb hc hbc hcb IH k _ h2 ?_ ?_ ?_
        · unfold sg; rw [sm_mv hc]; omega
        · unfold sg; rw [sm_mv hc]; omega
        · rw [pr_sg C hc]
          unfold sg
          rw [pr_mv hc, hbc]
          omega
abbrev VV (x : Vec) (b c : Nat) (s t : Int) : Vec := mv (mv x s b) t c
theorem pos_sg (C : Car n W) : ∀ (N : Nat) (x : Vec), Pos n W x → sm x n < N → ∀ b, b < n → x = eb b ∨ Pos n W (sg n W b x)
  | 0, x, hx, h, _, _ => by have := hx.ht; omega
  | N + 1, x, hx, hN, b, hb => by
    by_cases p1 : 0 < pr n W b x
    · exact .inr (.up hx hb p1)
    by_cases p2 : pr n W b x = 0
    · right
      unfold sg
      rw [p2, mv_zero]
      exact hx
    have hP : pr n W b x < 0 := by omega
    cases hx with
    | eb ha =>
      rename_i a
      rw [pr_eb ha] at hP
      by_cases e : b = a
      · exact .inl (by rw [e])
      · have := W_nn C hb ha e
        omega
    | up hy hc hq =>
      rename_i y c
      by_cases e : c = b
      · subst e
        right
        rw [sg_sg C hc]
        exact hy
      · have hx : Pos n W (sg n W c y) := .up hy hc hq
        have ey : y = sg n W c (sg n W c y) := (sg_sg C hc).symm
        have hQ : pr n W c (sg n W c y) < 0 := by rw [pr_sg C hc]; omega
        have hyx : sm y n < sm (sg n W c y) n := by unfold sg; rw [sm_mv hc]; omega
        rw [ey] at hy
        rw [ey] at hyx
        rw [sg_sg C hc] at hyx
        clear hq
        generalize hX : sg n W c y = x at *
        clear hX ey
        generalize hPP : pr n W b x = P at *
        generalize hQQ : pr n W c x = Q at *
        have IH := pos_sg C N
        right
        have nbc : b ≠ c := fun z => e z.symm
        have ne : c ≠ b := e
        have hV : ∀ s t, pr n W b (VV x b c s t) = P - 2 * s + W b c * t := fun s t => by
          rw [pr_mv hc, pr_mv hb, C.dg b hb, hPP]; omega
        have hW : ∀ s t, pr n W c (VV x b c s t) = Q + W c b * s - 2 * t := fun s t => by
          rw [pr_mv hc, pr_mv hb, C.dg c hc, hQQ]; omega
        have hS : ∀ s t, sm (VV x b c s t) n = sm x n + s + t := fun s t => by rw [sm_mv hc, sm_mv hb]
        have hB : ∀ s t, sg n W b (VV x b c s t) = VV x b c (s + (P - 2 * s + W b c * t)) t := fun s t => by
          unfold sg
          rw [hV, mv_comm ne, mv_mv]
        have hC : ∀ s t, sg n W c (VV x b c s t) = VV x b c s (t + (Q + W c b * s - 2 * t)) := fun s t => by
          unfold sg
          rw [hW, mv_mv]
        have e0 : sg n W c x = VV x b c 0 Q := by
          show mv x _ c = mv (mv x 0 b) Q c
          rw [mv_zero, hQQ]
        have e1 : sg n W b x = VV x b c P 0 := by
          show mv x _ b = mv (mv x P b) 0 c
          rw [mv_zero, hPP]
        rw [e0] at hy
        rw [e1]
        have R1 : ∀ s t s', Pos n W (VV x b c s t) → s + t < 0 → P - 2 * s + W b c * t < 0 → s' = s + (P - 2 * s + W b c * t) → (P - 2 * s + W b c * t = -2 ∧ Q + W c b * s - 2 * t = W c b ∧ VV x b c s t = eb b) ∨ Pos n W (VV x b c s' t) := fun s t s' h1 h2 h3 h4 => by
          rcases IH _ h1 (by rw [hS]; omega) b hb with h | h
          · left
            refine ⟨?_, ?_, h⟩
            · rw [← hV, h, pr_eb hb, C.dg b hb]
            · rw [← hW, h, pr_eb hb]
          · right
            rw [hB] at h
            rw [h4]
            exact h
        have R2 : ∀ s t t', Pos n W (VV x b c s t) → s + t < 0 → Q + W c b * s - 2 * t < 0 → t' = t + (Q + W c b * s - 2 * t) → (Q + W c b * s - 2 * t = -2 ∧ P - 2 * s + W b c * t = W b c) ∨ Pos n W (VV x b c s t') := fun s t t' h1 h2 h3 h4 => by
          rcases IH _ h1 (by rw [hS]; omega) c hc with h | h
          · left
            refine ⟨?_, ?_⟩
            · rw [← hW, h, pr_eb hc, C.dg c hc]
            · rw [← hV, h, pr_eb hc]
          · right
            rw [hC] at h
            rw [h4]
            exact h
        have U1 : ∀ s t s', Pos n W (VV x b c s t) → 0 < P - 2 * s + W b c * t → s' = s + (P - 2 * s + W b c * t) → Pos n W (VV x b c s' t) := fun s t s' h1 h2 h3 => by
          have := Pos.up h1 hb (by rw [hV]; exact h2)
          rw [hB] at this
          rw [h3]
          exact this
        have U2 : ∀ s t t', Pos n W (VV x b c s t) → 0 < Q + W c b * s - 2 * t → t' = t + (Q + W c b * s - 2 * t) → Pos n W (VV x b c s t') := fun s t t' h1 h2 h3 => by
          have := Pos.up h1 hc (by rw [hW]; exact h2)
          rw [hC] at this
          rw [h3]
          exact this
        rcases C.of b c hb hc nbc with ⟨u, v⟩ | ⟨u, v⟩ | ⟨u, v⟩ | ⟨u, v⟩ | ⟨u, v⟩ | ⟨u, v⟩ | ⟨u, v⟩
        · rw [u] at R1 R2 U1; rw [v] at R1 R2 U2; exact r2_00 (A := fun s t => Pos n W (VV x b c s t)) hP hQ R1 R2 U1 U2 hy
        · rw [u] at R1 R2 U1; rw [v] at R1 R2 U2
          refine r2_11 (A := fun s t => Pos n W (VV x b c s t)) hP hQ R1 R2 U1 U2 hy fun h => ?_
          have hv := hV 0 Q
          have hw := hW 0 Q
          rw [h, pr_eb hb, C.dg b hb, u] at hv
          rw [h, pr_eb hb, v] at hw
          have ec : VV x b c P 0 = eb c := by
            funext j
            have hj := congrFun h j
            unfold VV mv eb at hj
            unfold VV mv eb
            by_cases j1 : j = b
            · subst j1
              rw [if_neg nbc, if_pos rfl, if_pos rfl] at hj
              rw [if_neg nbc, if_pos rfl, if_neg nbc]
              omega
            · by_cases j2 : j = c
              · subst j2
                rw [if_pos rfl, if_neg ne, if_neg ne] at hj
                rw [if_pos rfl, if_neg ne, if_pos rfl]
                omega
              · rw [if_neg j2, if_neg j1, if_neg j1] at hj
                rw [if_neg j2, if_neg j1, if_neg j2]
                exact hj
          show Pos n W (VV x b c P 0)
          rw [ec]
          exact .eb hc
        · rw [u] at R1 R2 U1; rw [v] at R1 R2 U2; exact r2_12 (A := fun s t => Pos n W (VV x b c s t)) hP hQ R1 R2 U1 U2 hy
        · rw [u] at R1 R2 U1; rw [v] at R1 R2 U2; exact r2_21 (A := fun s t => Pos n W (VV x b c s t)) hP hQ R1 R2 U1 U2 hy
        · rw [u] at R1 R2 U1; rw [v] at R1 R2 U2; exact r2_13 (A := fun s t => Pos n W (VV x b c s t)) hP hQ R1 R2 U1 U2 hy
        · rw [u] at R1 R2 U1; rw [v] at R1 R2 U2; exact r2_31 (A := fun s t => Pos n W (VV x b c s t)) hP hQ R1 R2 U1 U2 hy
        · refine (no_inf C hb hc u v IH N _ hy ?_ ?_ ?_).elim
          · rw [hS]; omega
          · rw [hS]; omega
          · rw [hV, hW, u, v]; omega
end
end TT
namespace TT
def lc (x : Vec) (t : Int) (y : Vec) : Vec := fun j => x j + t * y j
def zv : Vec := fun _ => 0
def neg (x : Vec) : Vec := lc zv (-1) x
theorem neg_at {x : Vec} {j : Nat} : neg x j = - x j := by unfold neg lc zv; omega
theorem neg_neg {x : Vec} : neg (neg x) = x := by funext j; rw [neg_at, neg_at]; omega
theorem mv_lc {x : Vec} {t : Int} {b : Nat} : mv x t b = lc x t (eb b) := by funext j; exact mv_dif
section
variable {n : Nat} {W : Nat → Nat → Int}
theorem sm_lc {x y : Vec} {t : Int} : sm (lc x t y) n = sm x n + t * sm y n := by
  show sm (fun j => x j + t * y j) n = _
  rw [sm_add, sm_mul]
theorem pr_lc {b : Nat} {x y : Vec} {t : Int} : pr n W b (lc x t y) = pr n W b x + t * pr n W b y := by
  unfold pr lc
  rw [sm_congr (g := fun a => W b a * x a + t * (W b a * y a)) (fun j _ => by rw [Int.mul_add, Int.mul_left_comm]), sm_add, sm_mul]
theorem sg_lc {b : Nat} {x y : Vec} {t : Int} : sg n W b (lc x t y) = lc (sg n W b x) t (sg n W b y) := by
  funext j
  unfold sg
  rw [pr_lc]
  unfold mv lc
  dsimp only
  by_cases h : j = b
  · rw [if_pos h, if_pos h, if_pos h, Int.mul_add]; omega
  · rw [if_neg h, if_neg h, if_neg h]
def act (n : Nat) (W : Nat → Nat → Int) (w : List Nat) (x : Vec) : Vec := w.foldr (sg n W) x
def lets (n : Nat) (w : List Nat) : Prop := ∀ a ∈ w, a < n
theorem act_app {u v : List Nat} {x : Vec} : act n W (u ++ v) x = act n W u (act n W v x) := by unfold act; rw [List.foldr_append]
theorem act_lc {x y : Vec} {t : Int} : ∀ {w : List Nat}, act n W w (lc x t y) = lc (act n W w x) t (act n W w y)
  | [] => rfl
  | b :: w => by
    show sg n W b (act n W w _) = _
    rw [act_lc, sg_lc]; rfl
theorem lc_zz {t : Int} : lc zv t zv = zv := by funext j; unfold lc zv; omega
theorem sg_zv {b : Nat} : sg n W b zv = zv := by
  unfold sg
  rw [show pr n W b zv = 0 from sm_zero fun j _ => by unfold zv; omega, mv_zero]
theorem act_zv : ∀ {w : List Nat}, act n W w zv = zv
  | [] => rfl
  | b :: w => by
    show sg n W b (act n W w zv) = zv
    rw [act_zv, sg_zv]
theorem act_neg {w : List Nat} {x : Vec} : act n W w (neg x) = neg (act n W w x) := by
  unfold neg
  rw [act_lc, act_zv]
theorem sg_neg {b : Nat} {x : Vec} : sg n W b (neg x) = neg (sg n W b x) := act_neg (w := [b])
theorem sg_eb (C : Car n W) {b : Nat} (hb : b < n) : sg n W b (eb b) = neg (eb b) := by
  funext j
  unfold sg
  rw [pr_eb hb, C.dg b hb, mv_dif, neg_at]
  omega
def supp (n : Nat) (x : Vec) : Prop := ∀ j, n ≤ j → x j = 0
theorem supp_eb {a : Nat} (h : a < n) : supp n (eb a) := fun j hj => by unfold eb; rw [if_neg (by omega)]
theorem supp_sg {b : Nat} {x : Vec} (hb : b < n) (h : supp n x) : supp n (sg n W b x) := fun j hj => by
  unfold sg mv
  rw [if_neg (by omega)]
  exact h j hj
theorem supp_act {x : Vec} (h : supp n x) : ∀ {w : List Nat}, lets n w → supp n (act n W w x)
  | [], _ => h
  | b :: w, l => supp_sg (l b List.mem_cons_self) (supp_act h fun a ha => l a (List.mem_cons_of_mem _ ha))
theorem lets_app {u v : List Nat} : lets n (u ++ v) ↔ lets n u ∧ lets n v := by
  unfold lets
  constructor
  · exact fun h => ⟨fun a ha => h a (List.mem_append_left _ ha), fun a ha => h a (List.mem_append_right _ ha)⟩
  · exact fun h a ha => (List.mem_append.mp ha).elim (h.1 a) (h.2 a)
theorem lets_rev {u : List Nat} : lets n u.reverse ↔ lets n u := by
  unfold lets
  constructor
  · exact fun h a ha => h a (List.mem_reverse.mpr ha)
  · exact fun h a ha => h a (List.mem_reverse.mp ha)
theorem act_rev (C : Car n W) {x : Vec} : ∀ {w : List Nat}, lets n w → act n W w.reverse (act n W w x) = x
  | [], _ => rfl
  | b :: w, l => by
    rw [List.reverse_cons, act_app]
    show act n W w.reverse (sg n W b (sg n W b (act n W w x))) = x
    rw [sg_sg C (l b List.mem_cons_self)]
    exact act_rev C fun a ha => l a (List.mem_cons_of_mem _ ha)
theorem act_rev2 (C : Car n W) {x : Vec} {w : List Nat} (l : lets n w) : act n W w (act n W w.reverse x) = x := by
  have := act_rev C (x := x) (w := w.reverse) (lets_rev.mpr l)
  rw [List.reverse_reverse] at this
  exact this
theorem pos_sg1 (C : Car n W) {x : Vec} (h : Pos n W x) {b : Nat} (hb : b < n) : x = eb b ∨ Pos n W (sg n W b x) := pos_sg C ((sm x n).toNat + 1) x h (by omega) b hb
theorem sm_neg {x : Vec} : sm (neg x) n = - sm x n := by
  unfold neg
  rw [sm_lc, show sm zv n = 0 from sm_zero fun _ _ => rfl]
  omega
theorem not_both {x : Vec} (h : Pos n W x) (h2 : Pos n W (neg x)) : False := by
  have := h.ht
  have := h2.ht
  rw [sm_neg] at this
  omega
theorem sp_act (C : Car n W) {a : Nat} (ha : a < n) : ∀ {w : List Nat}, lets n w → Pos n W (act n W w (eb a)) ∨ Pos n W (neg (act n W w (eb a)))
  | [], _ => .inl (.eb ha)
  | b :: w, l => by
    have hb := l b List.mem_cons_self
    show Pos n W (sg n W b (act n W w (eb a))) ∨ Pos n W (neg (sg n W b (act n W w (eb a))))
    rcases sp_act C ha (w := w) fun a ha => l a (List.mem_cons_of_mem _ ha) with h | h
    · rcases pos_sg1 C h hb with e | h
      · rw [e, sg_eb C hb, neg_neg]
        exact .inr (.eb hb)
      · exact .inl h
    · rw [← sg_neg]
      rcases pos_sg1 C h hb with e | h
      · have e2 : act n W w (eb a) = neg (eb b) := by rw [← e, neg_neg]
        rw [e2, sg_neg, sg_eb C hb, neg_neg]
        exact .inl (.eb hb)
      · exact .inr h
theorem exch (C : Car n W) {a : Nat} (ha : a < n) : ∀ {w : List Nat}, lets n w → Pos n W (neg (act n W w (eb a))) → ∃ u b v, w = u ++ b :: v ∧ act n W v (eb a) = eb b
  | [], _, h => by
    have := h.nn a
    rw [neg_at] at this
    have e : act n W [] (eb a) a = 1 := by show eb a a = 1; unfold eb; rw [if_pos rfl]
    omega
  | b :: w, l, h => by
    have hb := l b List.mem_cons_self
    have lw : lets n w := fun a ha => l a (List.mem_cons_of_mem _ ha)
    rcases sp_act C ha lw with h1 | h1
    · rcases pos_sg1 C h1 hb with e | h2
      · exact ⟨[], b, w, rfl, e⟩
      · exact (not_both h2 h).elim
    · obtain ⟨u, b', v, e, e2⟩ := exch C ha lw h1
      exact ⟨b :: u, b', v, by rw [e]; rfl, e2⟩
theorem lin_ext {F : Vec → Int} (hl : ∀ x t y, F (lc x t y) = F x + t * F y) (he : ∀ c, c < n → F (eb c) = 0) : ∀ (m : Nat), m ≤ n → ∀ x : Vec, (∀ j, m ≤ j → x j = 0) → F x = 0
  | 0, _, x, h => by
    have e : x = zv := by funext j; exact h j (Nat.zero_le j)
    have := hl zv (-1) zv
    rw [lc_zz] at this
    rw [e]
    omega
  | m + 1, hm, x, h => by
    have e : x = lc (fun j => if j = m then 0 else x j) (x m) (eb m) := by
      funext j
      unfold lc eb
      dsimp only
      by_cases q : j = m
      · subst q
        rw [if_pos rfl, if_pos rfl]; omega
      · rw [if_neg q, if_neg q]; omega
    rw [e, hl, he m (by omega), lin_ext hl he m (by omega) (fun j => if j = m then 0 else x j) fun j hj => ?_]
    · omega
    · by_cases q : j = m
      · rw [if_pos q]
      · rw [if_neg q]
        exact h j (by omega)
theorem lin_eq {F G : Vec → Int} (hF : ∀ x t y, F (lc x t y) = F x + t * F y) (hG : ∀ x t y, G (lc x t y) = G x + t * G y) (he : ∀ c, c < n → F (eb c) = G (eb c)) {x : Vec} (hx : supp n x) : F x = G x := by
  have := lin_ext (n := n) (F := fun x => F x - G x) (fun x t y => by rw [hF, hG, Int.mul_sub]; omega) (fun c hc => by rw [he c hc]; omega) n (Nat.le_refl n) x hx
  omega
theorem conj (C : Car n W) {v : List Nat} {a b : Nat} (ha : a < n) (hb : b < n) (l : lets n v) (h : act n W v (eb a) = eb b) {x : Vec} (hx : supp n x) : sg n W b (act n W v (sg n W a x)) = act n W v x := by
  have sga : ∀ y, sg n W a y = lc y (pr n W a y) (eb a) := fun y => mv_lc
  have sgb : ∀ y, sg n W b y = lc y (pr n W b y) (eb b) := fun y => mv_lc
  have lr := lets_rev.mpr l
  have gx : ∀ y, act n W v (sg n W a (act n W v.reverse y)) = lc y (pr n W a (act n W v.reverse y)) (eb b) := fun y => by
    rw [sga, act_lc, h, act_rev2 C l]
  have fb : pr n W a (act n W v.reverse (eb b)) = -2 := by rw [← h, act_rev C l, pr_eb ha, C.dg a ha]
  have fl : ∀ x t y, pr n W a (act n W v.reverse (lc x t y)) = pr n W a (act n W v.reverse x) + t * pr n W a (act n W v.reverse y) := fun x t y => by rw [act_lc, pr_lc]
  have key : ∀ c, c < n → pr n W a (act n W v.reverse (eb c)) = pr n W b (eb c) := fun c hc => by
    by_cases e : c = b
    · subst e
      rw [fb, pr_eb hc, C.dg c hc]
    · have cb : (eb c) b = 0 := by unfold eb; rw [if_neg (fun z => e z.symm)]
      have cc : (eb c) c = 1 := by unfold eb; rw [if_pos rfl]
      have bb : (eb b) b = 1 := by unfold eb; rw [if_pos rfl]
      have bc : (eb b) c = 0 := by unfold eb; rw [if_neg e]
      have l1 : lets n (b :: (v ++ (a :: v.reverse))) := fun z hz => by
        rcases List.mem_cons.mp hz with rfl | hz
        · exact hb
        · rcases List.mem_append.mp hz with hz | hz
          · exact l z hz
          · rcases List.mem_cons.mp hz with rfl | hz
            · exact ha
            · exact lr z hz
      have l2 : lets n (v ++ (a :: (v.reverse ++ [b]))) := fun z hz => by
        rcases List.mem_append.mp hz with hz | hz
        · exact l z hz
        · rcases List.mem_cons.mp hz with rfl | hz
          · exact ha
          · rcases List.mem_append.mp hz with hz | hz
            · exact lr z hz
            · rcases List.mem_cons.mp hz with rfl | hz
              · exact hb
              · cases hz
      have z1 : act n W (b :: (v ++ (a :: v.reverse))) (eb c) = sg n W b (lc (eb c) (pr n W a (act n W v.reverse (eb c))) (eb b)) := by
        show sg n W b (act n W (v ++ (a :: v.reverse)) (eb c)) = _
        rw [act_app]
        show sg n W b (act n W v (sg n W a (act n W v.reverse (eb c)))) = _
        rw [gx]
      have z2 : act n W (v ++ (a :: (v.reverse ++ [b]))) (eb c) = lc (sg n W b (eb c)) (pr n W a (act n W v.reverse (sg n W b (eb c)))) (eb b) := by
        rw [act_app]
        show act n W v (sg n W a (act n W (v.reverse ++ [b]) (eb c))) = _
        rw [act_app]
        exact gx _
      have s1 := sp_act C hc l1
      have s2 := sp_act C hc l2
      rw [z1, sgb, pr_lc, pr_eb hc, pr_eb hb, C.dg b hb] at s1
      rw [z2, sgb, fl, fb, pr_eb hc] at s2
      rw [pr_eb hc]
      generalize pr n W a (act n W v.reverse (eb c)) = f at *
      have f1 : 0 ≤ W b c - f := by
        rcases s1 with s | s
        · have := s.nn b
          unfold lc at this
          rw [cb, bb] at this
          omega
        · have := s.nn c
          rw [neg_at] at this
          unfold lc at this
          rw [cc, bc] at this
          omega
      have f2 : 0 ≤ f - W b c := by
        rcases s2 with s | s
        · have := s.nn b
          unfold lc at this
          rw [cb, bb] at this
          omega
        · have := s.nn c
          rw [neg_at] at this
          unfold lc at this
          rw [cc, bc] at this
          omega
      omega
  have kx : pr n W a x = pr n W b (act n W v x) := by
    have := lin_eq (n := n) (F := fun x => pr n W a (act n W v.reverse x)) (G := fun x => pr n W b x) fl (fun x t y => pr_lc) key (x := act n W v x) (supp_act hx l)
    rw [act_rev C l] at this
    exact this
  rw [sga, act_lc, h, sgb, pr_lc, pr_eb hb, C.dg b hb, ← kx]
  funext j
  unfold lc
  generalize eb b j = z
  generalize pr n W a x = t
  rw [show t + t * -2 = -t by omega, Int.neg_mul]
  omega
theorem exch2 (C : Car n W) {a : Nat} (ha : a < n) {w : List Nat} (l : lets n w) (h : Pos n W (neg (act n W w (eb a)))) : ∃ u b v, w = u ++ b :: v ∧ ∀ x, supp n x → act n W (w ++ [a]) x = act n W (u ++ v) x := by
  obtain ⟨u, b, v, e, e2⟩ := exch C ha l h
  subst e
  have hb : b < n := l b (by simp)
  have lv : lets n v := fun z hz => l z (by simp [hz])
  refine ⟨u, b, v, rfl, fun x hx => ?_⟩
  rw [act_app, act_app]
  show act n W u (sg n W b (act n W v (sg n W a x))) = _
  rw [conj C ha hb lv e2 hx, act_app]
def hv (n : Nat) (W : Nat → Nat → Int) (w : List Nat) (a : Nat) : Int := sm (act n W w (eb a)) n
def Rw (n : Nat) (W : Nat → Nat → Int) (w v : List Nat) : Prop := ∀ c, c < n → hv n W w c = hv n W v c
theorem hv_neg_iff (C : Car n W) {a : Nat} (ha : a < n) {w : List Nat} (l : lets n w) : hv n W w a < 0 → Pos n W (neg (act n W w (eb a))) := fun h => by
  rcases sp_act C ha l with s | s
  · have := s.ht
    unfold hv at h
    omega
  · exact s
theorem hv_ne (C : Car n W) {a : Nat} (ha : a < n) {w : List Nat} (l : lets n w) : hv n W w a ≠ 0 := fun h => by
  unfold hv at h
  rcases sp_act C ha l with s | s
  · have := s.ht
    omega
  · have := s.ht
    rw [sm_neg] at this
    omega
theorem Rw.refl {w : List Nat} : Rw n W w w := fun _ _ => rfl
theorem Rw.symm {w v : List Nat} (h : Rw n W w v) : Rw n W v w := fun c hc => (h c hc).symm
theorem Rw.trans {u v w : List Nat} (h : Rw n W u v) (h2 : Rw n W v w) : Rw n W u w := fun c hc => (h c hc).trans (h2 c hc)
theorem Rw.sm {w v : List Nat} (h : Rw n W w v) {x : Vec} (hx : supp n x) : sm (act n W w x) n = sm (act n W v x) n :=
  lin_eq (n := n) (F := fun x => TT.sm (act n W w x) n) (G := fun x => TT.sm (act n W v x) n) (fun x t y => by rw [act_lc, sm_lc]) (fun x t y => by rw [act_lc, sm_lc]) h hx
theorem Rw.app {w v : List Nat} (h : Rw n W w v) {u : List Nat} (l : lets n u) : Rw n W (w ++ u) (v ++ u) := fun c hc => by
  unfold hv
  rw [act_app, act_app]
  exact h.sm (supp_act (supp_eb hc) l)
theorem hv_app_self (C : Car n W) {a : Nat} (ha : a < n) {w : List Nat} : hv n W (w ++ [a]) a = - hv n W w a := by
  unfold hv
  rw [act_app, show act n W [a] (eb a) = sg n W a (eb a) from rfl, sg_eb C ha, act_neg, sm_neg]
theorem Rw.twice (C : Car n W) {a : Nat} (ha : a < n) {w : List Nat} : Rw n W (w ++ [a] ++ [a]) w := fun c hc => by
  unfold hv
  rw [act_app, act_app]
  show TT.sm (act n W w (sg n W a (sg n W a (eb c)))) n = _
  rw [sg_sg C ha]
theorem Rw.of_map {w v : List Nat} (h : ∀ x, supp n x → act n W w x = act n W v x) : Rw n W w v := fun c hc => by unfold hv; rw [h _ (supp_eb hc)]
theorem hv_nil {c : Nat} (hc : c < n) : hv n W [] c = 1 := by
  unfold hv
  show sm (eb c) n = 1
  have := sm_eb (f := fun _ => (1 : Int)) hc
  simpa using this
theorem triv (C : Car n W) : ∀ (k : Nat) (w : List Nat), w.length = k → lets n w → (∀ c, c < n → hv n W w c = 1) → ∀ x, supp n x → act n W w x = x
  | k, w, hk, l, h, x, hx => by
    rcases List.eq_nil_or_concat w with rfl | ⟨w', a, e⟩
    · rfl
    · rw [List.concat_eq_append] at e
      subst e
      obtain ⟨lw, la⟩ := lets_app.mp l
      have ha := la a (by simp)
      have h1 := h a ha
      rw [hv_app_self C ha] at h1
      obtain ⟨u, b, v, e, hm⟩ := exch2 C ha lw (hv_neg_iff C ha lw (by omega))
      have luv : lets n (u ++ v) := by
        subst e
        exact fun z hz => lw z (by rcases List.mem_append.mp hz with q | q <;> simp [q])
      rw [hm x hx]
      have hl : (u ++ v).length < k := by
        subst e
        simp at hk ⊢
        omega
      refine triv C (u ++ v).length (u ++ v) rfl luv (fun c hc => ?_) x hx
      rw [← h c hc]
      unfold hv
      rw [hm _ (supp_eb hc)]
termination_by k => k
theorem Rw.map (C : Car n W) {w v : List Nat} (lw : lets n w) (lv : lets n v) (h : Rw n W w v) : ∀ x, supp n x → act n W w x = act n W v x := fun x hx => by
  have t := triv C _ (w ++ v.reverse) rfl (lets_app.mpr ⟨lw, lets_rev.mpr lv⟩) (fun c hc => by
    rw [h.app (lets_rev.mpr lv) c hc]
    unfold hv
    rw [act_app, act_rev2 C lv]
    exact hv_nil (W := W) hc) (act n W v x) (supp_act hx lv)
  rw [act_app, act_rev C lv] at t
  exact t
theorem min_ex (P : Nat → Prop) : ∀ k, P k → ∃ m, P m ∧ ∀ j, P j → m ≤ j
  | k, h => by
    by_cases q : ∃ j, j < k ∧ P j
    · obtain ⟨j, hj, pj⟩ := q
      exact min_ex P j pj
    · exact ⟨k, h, fun j hj => Nat.le_of_not_lt fun z => q ⟨j, z, hj⟩⟩
termination_by k => k
structure Ln (n : Nat) (W : Nat → Nat → Int) (w : List Nat) (k : Nat) : Prop where
  ex : ∃ v, lets n v ∧ v.length = k ∧ Rw n W v w
  le : ∀ v, lets n v → Rw n W v w → k ≤ v.length
theorem Ln.has {w : List Nat} (l : lets n w) : ∃ k, Ln n W w k := by
  obtain ⟨m, ⟨v, h1, h2, h3⟩, h4⟩ := min_ex (fun k => ∃ v, lets n v ∧ v.length = k ∧ Rw n W v w) w.length ⟨w, l, rfl, .refl⟩
  exact ⟨m, ⟨v, h1, h2, h3⟩, fun v a b => h4 _ ⟨v, a, rfl, b⟩⟩
theorem Ln.uniq {w : List Nat} {j k : Nat} (a : Ln n W w j) (b : Ln n W w k) : j = k := by
  obtain ⟨v, h1, h2, h3⟩ := a.ex
  obtain ⟨u, g1, g2, g3⟩ := b.ex
  have := a.le u g1 g3
  have := b.le v h1 h3
  omega
theorem Ln.cong {w v : List Nat} {k : Nat} (a : Ln n W w k) (h : Rw n W w v) : Ln n W v k := by
  obtain ⟨u, h1, h2, h3⟩ := a.ex
  exact ⟨⟨u, h1, h2, h3.trans h⟩, fun z l r => a.le z l (r.trans h.symm)⟩
theorem Ln.down (C : Car n W) {a : Nat} (ha : a < n) {w : List Nat} (l : lets n w) {k : Nat} (h : Ln n W w k) (hn : hv n W w a < 0) : ∃ j, k = j + 1 ∧ Ln n W (w ++ [a]) j := by
  obtain ⟨v, h1, h2, h3⟩ := h.ex
  have la : lets n [a] := fun z hz => by simp at hz; subst hz; exact ha
  obtain ⟨u, b, v', e, hm⟩ := exch2 C ha h1 (hv_neg_iff C ha h1 (by rw [h3 a ha]; exact hn))
  have luv : lets n (u ++ v') := by
    subst e
    exact fun z hz => h1 z (by rcases List.mem_append.mp hz with q | q <;> simp [q])
  have r1 : Rw n W (u ++ v') (w ++ [a]) := (Rw.of_map fun x hx => (hm x hx).symm).trans (h3.app la)
  have hl : (u ++ v').length + 1 = k := by subst e; simp at h2 ⊢; omega
  refine ⟨(u ++ v').length, hl.symm, ⟨u ++ v', luv, rfl, r1⟩, fun z lz rz => ?_⟩
  have := h.le (z ++ [a]) (lets_app.mpr ⟨lz, la⟩) ((rz.app la).trans (.twice C ha))
  rw [List.length_append] at this
  simp at this
  simp at hl ⊢
  omega
theorem Ln.up (C : Car n W) {a : Nat} (ha : a < n) {w : List Nat} (l : lets n w) {k : Nat} (h : Ln n W w k) (hn : 0 < hv n W w a) : Ln n W (w ++ [a]) (k + 1) := by
  have la : lets n [a] := fun z hz => by simp at hz; subst hz; exact ha
  obtain ⟨j, hj⟩ := Ln.has (W := W) (lets_app.mpr ⟨l, la⟩)
  obtain ⟨i, e, hi⟩ := hj.down C ha (lets_app.mpr ⟨l, la⟩) (by rw [hv_app_self C ha]; omega)
  have := (hi.cong (Rw.twice C ha)).uniq h
  subst this
  rw [← e]
  exact hj
theorem Ln.zero {w : List Nat} (h : Ln n W w 0) : ∀ c, c < n → hv n W w c = 1 := fun c hc => by
  obtain ⟨v, h1, h2, h3⟩ := h.ex
  obtain rfl : v = [] := List.eq_nil_of_length_eq_zero h2
  rw [← h3 c hc]
  exact hv_nil hc
theorem Ln.of_pos (C : Car n W) {w : List Nat} (l : lets n w) {k : Nat} (h : Ln n W w k) (hp : ∀ c, c < n → 0 < hv n W w c) : k = 0 := by
  obtain ⟨v, h1, h2, h3⟩ := h.ex
  rcases List.eq_nil_or_concat v with rfl | ⟨v', a, e⟩
  · exact h2.symm
  · rw [List.concat_eq_append] at e
    subst e
    obtain ⟨lv, la⟩ := lets_app.mp h1
    have ha := la a (by simp)
    have p := hp a ha
    rw [← h3 a ha, hv_app_self C ha] at p
    obtain ⟨j, hj⟩ := Ln.has (W := W) lv
    obtain ⟨i, e, hi⟩ := hj.down C ha lv (by omega)
    have e2 := (hi.cong h3).uniq h
    have := hj.le v' lv .refl
    simp at h2
    omega
theorem Ln.le_len {w : List Nat} (l : lets n w) {k : Nat} (h : Ln n W w k) : k ≤ w.length := h.le w l .refl
end
end TT
namespace BW
open PySem L2 DL
def kd_WEIGHTS : List (Int × D) := [(2, tI [0, 0]), (3, tI [1, 1]), (4, tI [1, 2]), (6, tI [1, 3]), (0, tI [2, 2])]
abbrev t_is_whole : DS := (dRet (dAndV (dIsi "int" (dVar 0)) (dNotV (dIsi "bool" (dVar 0)))))
abbrev t_is_letter : DS := (dRet (dAndV (dCall sp_is_whole (dCons (dVar 0) dNil)) (dCh oLe oLe (dC (.int 1)) (dVar 0) (dVar 1))))
abbrev t_can_stand : DS := (dSeq (dSet 3 (dOp oIx (dIxN 0 (dOp oSub (dVar 1) (dC (.int 1)))) (dOp oSub (dVar 2) (dC (.int 1)))))
  (dSeq (dIfS (dNot (dTru (dCall sp_is_whole (dCons (dVar 3) dNil)))) (dRet (dC (.bl false))) dNext)
  (dSeq (dIfS (dTB (dOp oEq (dVar 1) (dVar 2))) (dRet (dOp oEq (dVar 3) (dC (.int (1))))) dNext)
  (dSeq (dIfS (dTB (dOp oLt (dVar 1) (dVar 2))) (dRet (dKdIn kd_WEIGHTS (dVar 3))) dNext)
  (dRet (dOp oEq (dVar 3) (dOp oIx (dIxN 0 (dOp oSub (dVar 2) (dC (.int 1)))) (dOp oSub (dVar 1) (dC (.int 1))))))))))
abbrev t_check_shape : DS := (dSeq (dIfS (dOr (dNot (dTru (dIsi2 "list" "tuple" (dVar 0)))) (dTB (dOp oEq (dLenN 0) (dC (.int 0))))) (fun _ _ => False) dNext)
  (dSeq (dIfS (dTB (dOp oGt (dLenN 0) (dC (.int (6))))) (fun _ _ => False) dNext)
  (dFor (iLst (dVar 0)) (dgN 1) (dIfS (dOr (dNot (dTru (dIsi2 "list" "tuple" (dVar 1)))) (dTB (dOp oNe (dLenN 1) (dLenN 0)))) (fun _ _ => False) dNext))))
abbrev t_check_table : DS := (dSeq (dDrop (dCall sp_check_shape (dCons (dVar 0) dNil)))
  (dSeq (dSet 1 (dFr (dLr2 (dC (.int 1)) (dOp oAdd (dLenN 0) (dC (.int 1))))))
  (dFor (iLst (dVar 1)) (dgN 2) (dFor (iLst (dVar 1)) (dgN 3) (dIfS (dNot (dTru (dCall sp_can_stand (dCons (dVar 0) (dCons (dVar 2) (dCons (dVar 3) dNil)))))) (fun _ _ => False) dNext)))))
abbrev t_weight_of : DS := (dSeq (dIfS (dTB (dOp oEq (dVar 1) (dVar 2))) (dRet (dC (.int (-2)))) dNext)
  (dSeq (dAsg (dKd kd_WEIGHTS (dOp oIx (dIxN 0 (dOp oSub (dVar 1) (dC (.int 1)))) (dOp oSub (dVar 2) (dC (.int 1))))) (dgTup 2 (dgCons (dgN 3) (dgCons (dgN 4) dgNil))))
  (dRet (dIf (dTB (dOp oLt (dVar 1) (dVar 2))) (dVar 3) (dVar 4)))))
abbrev t_weights_from : DS := (dRet (dTupOf (dFr (dLc (iR2 (dC (.int 1)) (dOp oAdd (dLenN 0) (dC (.int 1)))) (dgN 2) dY (dCall sp_weight_of (dCons (dVar 0) (dCons (dVar 1) (dCons (dVar 2) dNil)))) [2]))))
abbrev t_as_word : DS := (dSeq (dIfS (dNot (dTru (dIsi2 "list" "tuple" (dVar 0)))) (fun _ _ => False) dNext)
  (dSeq (dIfS (dTB (dOp oGt (dLenN 0) (dC (.int (60))))) (fun _ _ => False) dNext)
  (dSeq (dFor (iEnS (dVar 0)) (dgTup 2 (dgCons (dgN 2) (dgCons (dgN 3) dgNil))) (dIfS (dNot (dTru (dCall sp_is_letter (dCons (dVar 3) (dCons (dVar 1) dNil))))) (fun _ _ => False) dNext))
  (dRet (dTupN 0)))))
abbrev t_first_row (BC : Addr) : DS := (dRet (dOp oMul (dTup (dCons (dC (.int 1)) dNil)) (dLenO BC (sp_len_Bonds BC) (dVar 0))))
abbrev t_pressed (BC : Addr) : DS := (dSeq (dSet 3 (dIxN 1 (dOp oSub (dVar 2) (dC (.int 1)))))
  (dSeq (dSet 4 (dOp oIx (dFld BC "weights" (dVar 0)) (dOp oSub (dVar 2) (dC (.int 1)))))
  (dRet (dTupOf (dFr (dLc (iZp (dVar 1) (dVar 4)) (dgTup 2 (dgCons (dgN 5) (dgCons (dgN 6) dgNil))) dY (dOp oAdd (dVar 5) (dOp oMul (dVar 6) (dVar 3))) [5, 6]))))))
abbrev t_row_behind (BC : Addr) : DS := (dSeq (dSet 2 (dCall (sp_first_row BC) (dCons (dVar 0) dNil)))
  (dSeq (dFor (iSeq (dVar 1)) (dgN 3) (dSet 2 (dCall (sp_pressed BC) (dCons (dVar 0) (dCons (dVar 2) (dCons (dVar 3) dNil))))))
  (dRet (dVar 2))))
abbrev t_row_of (BC : Addr) : DS := (dRet (dCall (sp_row_behind BC) (dCons (dVar 0) (dCons (dCall sp_as_word (dCons (dVar 1) (dCons (dLenO BC (sp_len_Bonds BC) (dVar 0)) dNil))) dNil))))
abbrev t_alike (BC : Addr) : DS := (dRet (dOp oEq (dCall (sp_row_of BC) (dCons (dVar 0) (dCons (dVar 1) dNil))) (dCall (sp_row_of BC) (dCons (dVar 0) (dCons (dVar 2) dNil)))))
abbrev t__law_mixed : DS := (dSeq (dSet 2 (dOp oAdd (dOp oAdd (dOp oMod (dInt (dOp oMul (dOp oMul (dVar 0) (dOp oAdd (dC (.int 1)) (dOp oMul (dC (.int 2)) (dVar 1)))) (dC (.int 48271)))) (dC (.int 2147483647))) (dOp oMul (dOp oMul (dC (.int 7919)) (dVar 1)) (dVar 1))) (dOp oMul (dC (.int 104729)) (dVar 1))))
  (dRet (dOp oDiv (dOp oMod (dInt (dOp oMul (dVar 2) (dC (.int 69621)))) (dC (.int 2147483629))) (dC (.int 7)))))
end BW
namespace BW
open PySem L2 DL
theorem iteD {p : Prop} [Decidable p] {a b : Prop} (h1 : p → a) (h2 : ¬p → b) : if decide p = true then a else b := by
  by_cases h : p
  · rw [decide_eq_true h]; exact iteT (h1 h)
  · rw [decide_eq_false h]; exact iteF (h2 h)
theorem ixN_nat {n j : Nat} (hj : j < n) : ixN n (j : Int) = some j := by
  unfold ixN
  rw [if_pos (by omega), if_pos (by omega)]
  simp
theorem getD_get {α : Type} {xs : List α} {i : Nat} {d : α} (h : i < xs.length) : xs[i]? = some (xs.getD i d) := by
  rw [List.getD_eq_getElem?_getD, List.getElem?_eq_getElem h]; rfl
theorem atM {α β : Type} {xs : List α} {f : α → β} {i : Nat} (d : α) (h : i < xs.length) : atI (xs.map f) (i : Int) = some (f (xs.getD i d)) := by
  refine atI_nat ?_
  rw [List.getElem?_map, getD_get (d := d) h]; rfl
theorem eqvI (a b : Int) : PyData.eqv (D.int a).py (D.int b).py = decide (a = b) := by
  show PyData.eqv (.int a) (.int b) = _
  first | rfl | (unfold PyData.eqv; rfl)
abbrev St0 (hm : Bool) (n : Nat) (ds : List D) (X : List Addr) (k : Nat) : S := ⟨X, init hm n ds, k⟩
abbrev En (R : D → Nat → Prop) : DEnds := { nx := fun s => R .non s.k, rt := R }
theorem r_is_whole (X : List Addr) (ds : List D) (k : Nat) (R : D → Nat → Prop) (h : sp_is_whole ds k R) : t_is_whole (En R) (St0 false 1 ds X k) := by
  obtain ⟨d, rfl, hd, h⟩ := h
  intro X
  cases d <;> first
    | exact ⟨_, rfl, _, _, rfl, rfl, _, rfl, iteT ⟨_, rfl, _, _, rfl, rfl, _, rfl, h⟩⟩
    | exact ⟨_, rfl, _, _, rfl, rfl, _, rfl, iteF h⟩
    | cases hd
theorem r_is_letter (X : List Addr) (ds : List D) (k : Nat) (R : D → Nat → Prop) (h : sp_is_letter ds k R) : t_is_letter (En R) (St0 false 2 ds X k) := by
  obtain ⟨d, n, rfl, hd, h⟩ := h
  intro X
  refine ⟨_, rfl, d, rfl, hd, ?_⟩
  cases d <;> first
    | exact ⟨_, rfl, iteF h⟩
    | skip
  rename_i a
  refine ⟨_, rfl, iteT ⟨_, rfl, _, rfl, iteD (fun h1 => ⟨_, rfl, ?_⟩) fun h1 => ?_⟩⟩
  · have e : D.isL n (.int a) = decide (a ≤ n) := by
      show (decide (1 ≤ a) && decide (a ≤ n)) = _
      rw [decide_eq_true h1, Bool.true_and]
    rw [e] at h
    exact h
  · have e : D.isL n (.int a) = false := by
      show (decide (1 ≤ a) && decide (a ≤ n)) = _
      rw [decide_eq_false h1, Bool.false_and]
    rw [e] at h
    exact h
theorem r_can_stand (X : List Addr) (ds : List D) (k : Nat) (R : D → Nat → Prop) (h : sp_can_stand ds k R) : t_can_stand (En R) (St0 false 4 ds X k) := by
  obtain ⟨T, a, b, rfl, ht, a1, a2, b1, b2, h⟩ := h
  obtain ⟨i, rfl⟩ : ∃ i : Nat, a = (i : Int) + 1 := ⟨(a - 1).toNat, by omega⟩
  obtain ⟨j, rfl⟩ : ∃ j : Nat, b = (j : Int) + 1 := ⟨(b - 1).toNat, by omega⟩
  have hi : i < T.length := by omega
  have hj : j < T.length := by omega
  have row : ∀ i : Nat, i < T.length → ∀ z : Int, z = (i : Int) → atI (T.map lI) z = some (lI (T.getD i [])) := fun i hi z e => by rw [e]; exact atM [] hi
  have item : ∀ i j : Nat, i < T.length → j < T.length → ∀ z : Int, z = (j : Int) → atI ((T.getD i []).map D.int) z = some (.int (at2 T i j)) := fun i j hi hj z e => by rw [e]; exact atM 0 (by rw [ht.sq i hi]; exact hj)
  refine ⟨_, rfl, _, rfl, _, _, rfl, row i hi _ (by omega), _, rfl, _, _, rfl, item i j hi hj _ (by omega), ?_⟩
  refine ⟨_, rfl, _, rfl, rfl, _, rfl, iteF ?_⟩
  refine ⟨_, rfl, _, rfl, rfl, rfl, _, rfl, ?_⟩
  rw [eqvI]
  refine iteD (fun e => ?_) fun ne => ?_
  · have e : i = j := by omega
    subst e
    intro X
    refine ⟨_, rfl, rfl, rfl, ?_⟩
    rw [eqvI, ht.dg i hi]
    exact h
  · refine ⟨_, rfl, _, rfl, _, rfl, iteD (fun lt => ?_) fun ge => ?_⟩
    · intro X
      refine ⟨_, rfl, _, rfl, ?_⟩
      have e : (lookI kd_WEIGHTS (at2 T i j)).isSome = true := by
        rcases ht.of i j hi hj (by omega) with e | e | e | e | e <;> rw [e] <;> rfl
      rw [e]
      exact h
    · intro X
      refine ⟨_, rfl, _, rfl, _, rfl, _, _, rfl, row j hj _ (by omega), _, rfl, _, _, rfl, item j i hj hi _ (by omega), rfl, rfl, ?_⟩
      rw [eqvI, ht.sy i j hi hj, decide_eq_true rfl]
      exact h
end BW
namespace BW
open PySem L2 DL
theorem r_check_shape (X : List Addr) (ds : List D) (k : Nat) (R : D → Nat → Prop) (h : sp_check_shape ds k R) : t_check_shape (En R) (St0 false 2 ds X k) := by
  obtain ⟨T, rfl, ht, h⟩ := h
  have lo := ht.lo
  have hi := ht.hi
  refine ⟨_, rfl, _, _, _, rfl, rfl, rfl, _, rfl, iteF ⟨_, rfl, rfl, rfl, _, rfl, ?_⟩⟩
  rw [eqvI, List.length_map, decide_eq_false (by omega)]
  refine iteF ⟨_, rfl, _, rfl, ?_⟩
  rw [List.length_map, decide_eq_false (by omega)]
  refine iteF ⟨_, rfl, _, rfl, fun i s' => ∃ x, s' = ⟨X, [.dat (lM T), x], k⟩, ⟨_, rfl⟩, ?_, ?_⟩
  · rintro i d s' hd ⟨x, rfl⟩
    rw [List.getElem?_map] at hd
    obtain ⟨r, hr, rfl⟩ := Option.map_eq_some_iff.mp hd
    have hl : i < T.length := (List.getElem?_eq_some_iff.mp hr).1
    have hrl : r.length = T.length := by
      have := ht.sq i hl
      rw [List.getD_eq_getElem?_getD, hr] at this
      exact this
    refine ⟨_, rfl, _, _, _, rfl, rfl, rfl, _, rfl, iteF ⟨_, rfl, _, rfl, rfl, rfl, _, rfl, ?_⟩⟩
    rw [eqvI, List.length_map, List.length_map, decide_eq_true (by omega)]
    exact iteF ⟨_, rfl⟩
  · rintro s' ⟨x, rfl⟩
    exact h
theorem r_check_table (X : List Addr) (ds : List D) (k : Nat) (R : D → Nat → Prop) (h : sp_check_table ds k R) : t_check_table (En R) (St0 false 4 ds X k) := by
  obtain ⟨T, rfl, ht, h⟩ := h
  have hi := ht.hi
  refine ⟨_, rfl, T, rfl, ht, ?_⟩
  refine ⟨_, rfl, 1, _, rfl, rfl, ⟨by omega, by omega, ?_, ?_⟩, ?_⟩
  · rw [List.length_map]; omega
  · rw [List.length_map]; omega
  have en : (((T.map lI).length : Int) + 1 - 1).toNat = T.length := by rw [List.length_map]; omega
  rw [en]
  refine ⟨_, rfl, _, rfl, fun i s' => ∃ x y, s' = ⟨X, [.dat (lM T), .dat (.lst (rngD 1 T.length)), x, y], k⟩, ⟨_, _, rfl⟩, ?_, ?_⟩
  · rintro i d s' hd ⟨x, y, rfl⟩
    obtain ⟨hi, rfl⟩ := rngD_at hd
    refine ⟨_, rfl, _, rfl, fun j s' => ∃ y, s' = ⟨X, [.dat (lM T), .dat (.lst (rngD 1 T.length)), .dat (.int (1 + i)), y], k⟩, ⟨_, rfl⟩, ?_, ?_⟩
    · rintro j d s' hd ⟨y, rfl⟩
      obtain ⟨hj, rfl⟩ := rngD_at hd
      refine ⟨_, rfl, _, rfl, _, rfl, T, _, _, rfl, ht, by omega, by omega, by omega, by omega, _, rfl, iteF ⟨_, rfl⟩⟩
    · rintro s' ⟨y, rfl⟩
      exact ⟨_, _, rfl⟩
  · rintro s' ⟨x, y, rfl⟩
    exact h
theorem look_wts {k : Int} (h : k = 2 ∨ k = 3 ∨ k = 4 ∨ k = 6 ∨ k = 0) : lookI kd_WEIGHTS k = some (tI [(wts k).1, (wts k).2]) := by
  rcases h with e | e | e | e | e <;> subst e <;> rfl
theorem r_weight_of (X : List Addr) (ds : List D) (k : Nat) (R : D → Nat → Prop) (h : sp_weight_of ds k R) : t_weight_of (En R) (St0 false 5 ds X k) := by
  obtain ⟨T, a, b, rfl, ht, a1, a2, b1, b2, h⟩ := h
  obtain ⟨i, rfl⟩ : ∃ i : Nat, a = (i : Int) + 1 := ⟨(a - 1).toNat, by omega⟩
  obtain ⟨j, rfl⟩ : ∃ j : Nat, b = (j : Int) + 1 := ⟨(b - 1).toNat, by omega⟩
  have hi : i < T.length := by omega
  have hj : j < T.length := by omega
  have ei : ix ((i : Int) + 1) = i := by unfold ix; omega
  have ej : ix ((j : Int) + 1) = j := by unfold ix; omega
  rw [ei, ej] at h
  have row : ∀ i : Nat, i < T.length → ∀ z : Int, z = (i : Int) → atI (T.map tI) z = some (tI (T.getD i [])) := fun i hi z e => by rw [e]; exact atM [] hi
  have item : ∀ i j : Nat, i < T.length → j < T.length → ∀ z : Int, z = (j : Int) → atI ((T.getD i []).map D.int) z = some (.int (at2 T i j)) := fun i j hi hj z e => by rw [e]; exact atM 0 (by rw [ht.sq i hi]; exact hj)
  refine ⟨_, rfl, _, rfl, rfl, rfl, _, rfl, ?_⟩
  rw [eqvI]
  refine iteD (fun e => ?_) fun ne => ?_
  · intro X
    have e : i = j := by omega
    subst e
    unfold wt at h
    rw [if_pos rfl] at h
    exact h
  · have ne' : i ≠ j := by omega
    refine ⟨_, rfl, _, rfl, _, _, rfl, row i hi _ (by omega), _, rfl, _, _, rfl, item i j hi hj _ (by omega), ?_⟩
    refine ⟨_, _, rfl, look_wts (ht.of i j hi hj ne'), rfl, rfl, ?_⟩
    intro X
    unfold wt at h
    rw [if_neg ne'] at h
    refine ⟨_, rfl, _, rfl, _, rfl, iteD (fun lt => ⟨_, rfl, ?_⟩) fun ge => ⟨_, rfl, ?_⟩⟩
    · rw [if_pos (by omega)] at h; exact h
    · rw [if_neg (by omega)] at h; exact h
theorem r_weights_from (X : List Addr) (ds : List D) (k : Nat) (R : D → Nat → Prop) (h : sp_weights_from ds k R) : t_weights_from (En R) (St0 false 3 ds X k) := by
  obtain ⟨T, a, rfl, ht, a1, a2, h⟩ := h
  have hi := ht.hi
  intro X
  refine ⟨_, rfl, 1, _, rfl, rfl, ⟨by omega, by omega, ?_, ?_⟩, ?_⟩
  · rw [List.length_map]; omega
  · rw [List.length_map]; omega
  have en : (((T.map tI).length : Int) + 1 - 1).toNat = T.length := by rw [List.length_map]; omega
  rw [en]
  refine ⟨by rw [rngD_len]; exact Nat.le_trans hi (by decide), fun p hp => ⟨fun i acc k' => k' = k ∧ acc = ((List.range i).map fun j => D.int (wt T (ix a) j)), ⟨rfl, rfl⟩, ?_, ?_⟩⟩
  · rintro i d acc k' hd ⟨rfl, rfl⟩ hl
    obtain ⟨hi, rfl⟩ := rngD_at hd
    refine iteT ⟨_, rfl, _, rfl, _, rfl, T, a, _, rfl, ht, a1, a2, by omega, by omega, rfl, ?_⟩
    rw [List.range_succ, List.map_append]
    have e : ix (1 + (i : Int)) = i := by unfold ix; omega
    rw [e]
    rfl
  · rintro acc k' ⟨rfl, rfl⟩ hl
    refine ⟨_, rfl, ?_⟩
    have e : ((List.range (rngD 1 T.length).length).map fun j => D.int (wt T (ix a) j)) = (wtr T (ix a)).map .int := by
      unfold wtr
      rw [rngD_len, List.map_map]
      rfl
    rw [e]
    exact h
end BW
namespace BW
open PySem L2 DL
theorem press_length (T : Mat) (r : List Int) (i : Nat) : (press T r i).length = T.length := by unfold press; rw [List.length_map, List.length_range]
theorem r_as_word (X : List Addr) (ds : List D) (k : Nat) (R : D → Nat → Prop) (h : sp_as_word ds k R) : t_as_word (En R) (St0 false 4 ds X k) := by
  obtain ⟨d, w, n, rfl, hw, hl, hwd, h⟩ := h
  have loop : ∀ (s0 : S) (x y : Sl), ∀ i e, w[i]? = some e → ∀ (DD : DEnds), (∀ x y, DD.nx ⟨X, [.dat d, .dat (.int n), x, y], k⟩) → (dgTup 2 (dgCons (dgN 2) (dgCons (dgN 3) dgNil))) (.tup [.int ((0 + i : Nat) : Int), .int e]) ⟨X, [.dat d, .dat (.int n), x, y], k⟩ fun s2 => (dIfS (dNot (dTru (dCall sp_is_letter (dCons (dVar 3) (dCons (dVar 1) dNil))))) (fun _ _ => False) dNext) DD s2 := by
    intro s0 x y i e he DD hf
    have b := hwd e (List.mem_of_getElem? he)
    refine ⟨rfl, rfl, ?_⟩
    refine ⟨_, rfl, _, rfl, _, _, rfl, rfl, _, rfl, ?_⟩
    have e1 : D.isL n (.int e) = true := by
      show (decide (1 ≤ e) && decide (e ≤ n)) = true
      rw [decide_eq_true b.1, decide_eq_true b.2]; rfl
    rw [e1]
    exact iteF (hf _ _)
  rcases hw with rfl | rfl
  · refine ⟨_, rfl, _, _, _, rfl, rfl, rfl, _, rfl, iteF ⟨_, rfl, _, rfl, ?_⟩⟩
    rw [List.length_map, decide_eq_false (by omega)]
    refine iteF ⟨_, rfl, _, rfl, fun i s' => ∃ x y, s' = ⟨X, [.dat (lI w), .dat (.int n), x, y], k⟩, ⟨_, _, rfl⟩, ?_, ?_⟩
    · rintro i d s' hd ⟨x, y, rfl⟩
      obtain ⟨e, he, rfl⟩ := enum_at hd
      rw [List.getElem?_map] at he
      obtain ⟨a, ha, rfl⟩ := Option.map_eq_some_iff.mp he
      exact loop ⟨X, [], k⟩ x y i a ha _ fun x y => ⟨x, y, rfl⟩
    · rintro s' ⟨x, y, rfl⟩ X'
      exact ⟨_, rfl, h⟩
  · refine ⟨_, rfl, _, _, _, rfl, rfl, rfl, _, rfl, iteF ⟨_, rfl, _, rfl, ?_⟩⟩
    rw [List.length_map, decide_eq_false (by omega)]
    refine iteF ⟨_, rfl, _, rfl, fun i s' => ∃ x y, s' = ⟨X, [.dat (tI w), .dat (.int n), x, y], k⟩, ⟨_, _, rfl⟩, ?_, ?_⟩
    · rintro i d s' hd ⟨x, y, rfl⟩
      obtain ⟨e, he, rfl⟩ := enum_at hd
      rw [List.getElem?_map] at he
      obtain ⟨a, ha, rfl⟩ := Option.map_eq_some_iff.mp he
      exact loop ⟨X, [], k⟩ x y i a ha _ fun x y => ⟨x, y, rfl⟩
    · rintro s' ⟨x, y, rfl⟩ X'
      exact ⟨_, rfl, h⟩
theorem rep_one (n : Nat) : (List.replicate n [D.int 1]).flatten = (List.replicate n (1 : Int)).map .int := by
  induction n with
  | zero => rfl
  | succ n ih => rw [List.replicate_succ, List.flatten_cons, ih, List.replicate_succ]; rfl
theorem r_first_row (BC : Addr) (X : List Addr) (ds : List D) (k : Nat) (R : D → Nat → Prop) (h : sp_first_row BC ds k R) : t_first_row BC (En R) (St0 false 1 ds X k) := by
  obtain ⟨T, rfl, ht, h⟩ := h
  have lo := ht.lo
  have hi := ht.hi
  intro X
  refine ⟨by decide, _, rfl, ⟨_, _, rfl⟩, T, rfl, hi, T.length, rfl, by omega, ?_⟩
  refine ⟨by simp, by omega, by omega, by decide, ?_⟩
  have e : (List.replicate ((T.length : Nat) : Int).toNat [D.int 1]).flatten = (one T).map .int := by rw [Int.toNat_natCast]; exact rep_one _
  show R (.tup (List.replicate ((T.length : Nat) : Int).toNat [D.int 1]).flatten) k
  rw [e]
  exact h
theorem r_pressed (BC : Addr) (X : List Addr) (ds : List D) (k : Nat) (R : D → Nat → Prop) (h : sp_pressed BC ds k R) : t_pressed BC (En R) (St0 false 7 ds X k) := by
  obtain ⟨T, r, a, rfl, ht, hr, a1, a2, h⟩ := h
  have hT := ht.hi
  obtain ⟨i, rfl⟩ : ∃ i : Nat, a = (i : Int) + 1 := ⟨(a - 1).toNat, by omega⟩
  have hi : i < T.length := by omega
  have ei : ix ((i : Int) + 1) = i := by unfold ix; omega
  rw [ei] at h
  refine ⟨_, rfl, _, rfl, _, .int (r.getD i 0), rfl, by rw [show (i : Int) + 1 - 1 = (i : Int) by omega]; exact atM 0 (by omega), ?_⟩
  have w1 : atI ((wtM T).map tI) ((i : Int) + 1 - 1) = some (tI (wtr T i)) := by
    rw [show (i : Int) + 1 - 1 = (i : Int) by omega]
    have q := atM (f := tI) (xs := wtM T) [] (i := i) (by unfold wtM; rw [List.length_map, List.length_range]; exact hi)
    rw [q]
    congr 2
    unfold wtM
    rw [List.getD_eq_getElem?_getD, List.getElem?_map, List.getElem?_range hi]
    rfl
  refine ⟨_, rfl, _, _, _, rfl, rfl, _, rfl, _, _, rfl, w1, ?_⟩
  intro X
  have lw : (wtr T i).length = T.length := by unfold wtr; rw [List.length_map, List.length_range]
  refine ⟨_, rfl, _, rfl, _, _, rfl, rfl, ?_⟩
  have lp : (pairD (r.map D.int) ((wtr T i).map D.int)).length = T.length := by rw [pair_len, List.length_map, List.length_map, hr, lw]; omega
  refine ⟨by rw [lp]; exact Nat.le_trans hT (by decide), fun p hp => ⟨fun j acc k' => k' = k ∧ acc = ((List.range j).map fun j => D.int (r.getD j 0 + wt T i j * r.getD i 0)), ⟨rfl, rfl⟩, ?_, ?_⟩⟩
  · rintro j d acc k' hd ⟨rfl, rfl⟩ hl
    have hj : j < T.length := by rw [← lp]; exact (List.getElem?_eq_some_iff.mp hd).1
    obtain ⟨x, y, hx, hy, rfl⟩ := pair_at hd
    rw [List.getElem?_map, getD_get (d := 0) (by omega : j < r.length)] at hx
    rw [List.getElem?_map, getD_get (d := 0) (by omega : j < (wtr T i).length)] at hy
    cases hx
    cases hy
    have ew : (wtr T i).getD j 0 = wt T i j := by
      unfold wtr
      rw [List.getD_eq_getElem?_getD, List.getElem?_map, List.getElem?_range hj]
      rfl
    rw [ew]
    have bw : -(2 ^ 64) < wt T i j ∧ wt T i j < 2 ^ 64 := by
      unfold wt wts
      split
      · exact ⟨by decide, by decide⟩
      · split <;> split <;> first | exact ⟨by decide, by decide⟩ | (split <;> first | exact ⟨by decide, by decide⟩ | (split <;> first | exact ⟨by decide, by decide⟩ | (split <;> exact ⟨by decide, by decide⟩)))
    refine ⟨rfl, rfl, iteT ⟨_, rfl, _, rfl, _, rfl, .inl bw, rfl, ?_⟩⟩
    rw [List.range_succ, List.map_append]
    rfl
  · rintro acc k' ⟨rfl, rfl⟩ hl
    refine ⟨_, rfl, ?_⟩
    rw [lp]
    have e : ((List.range T.length).map fun j => D.int (r.getD j 0 + wt T i j * r.getD i 0)) = (press T r i).map .int := by
      unfold press
      rw [List.map_map]
      rfl
    rw [e]
    exact h
theorem r_row_behind (BC : Addr) (X : List Addr) (ds : List D) (k : Nat) (R : D → Nat → Prop) (h : sp_row_behind BC ds k R) : t_row_behind BC (En R) (St0 false 4 ds X k) := by
  obtain ⟨T, d0, w, rfl, ht, hd0, hw, h⟩ := h
  have hit : d0.items = some (w.map D.int) := by rcases hd0 with rfl | rfl <;> rfl
  refine ⟨_, rfl, T, rfl, ht, ?_⟩
  refine ⟨_, rfl, _, hit, fun i s' => ∃ x r, s' = ⟨X, [.dat (bnd BC T), .dat d0, .dat (tI r), x], k⟩ ∧ r.length = T.length ∧ (w.drop i).foldl (fun r a => press T r (ix a)) r = row T w, ⟨_, _, rfl, by unfold one; rw [List.length_replicate], rfl⟩, ?_, ?_⟩
  · rintro i d s' hd ⟨x, r, rfl, hr, e⟩
    rw [List.getElem?_map] at hd
    obtain ⟨a, ha, rfl⟩ := Option.map_eq_some_iff.mp hd
    have b := hw a (List.mem_of_getElem? ha)
    have hi := (List.getElem?_eq_some_iff.mp ha)
    obtain ⟨hi, e2⟩ := hi
    rw [List.drop_eq_getElem_cons hi, e2, List.foldl_cons] at e
    refine ⟨_, rfl, _, rfl, _, rfl, T, r, a, rfl, ht, hr, b.1, b.2, ?_⟩
    exact ⟨_, _, rfl, press_length _ _ _, e⟩
  · rintro s' ⟨x, r, rfl, hr, e⟩ X'
    rw [List.length_map, List.drop_length] at e
    have e : r = row T w := e
    subst e
    exact ⟨_, rfl, h⟩
end BW
namespace BW
open PySem L2 DL
theorem fall_mem {r : List Int} {a : Int} (h : a ∈ fall r) : ∃ i : Nat, a = (i : Int) + 1 ∧ i < r.length ∧ r.getD i 0 < 0 := by
  unfold fall at h
  obtain ⟨i, hi, rfl⟩ := List.mem_map.mp h
  obtain ⟨h1, h2⟩ := List.mem_filter.mp hi
  exact ⟨i, rfl, List.mem_range.mp h1, of_decide_eq_true h2⟩
theorem wd_nil {T : Mat} {n : Nat} {r : List Int} (h : fall r = []) : wd T n r = ([], r) := by
  cases n with
  | zero => rfl
  | succ n => unfold wd; rw [h]
theorem wd_cons {T : Mat} {n : Nat} {r : List Int} {a : Int} {q : List Int} (h : fall r = a :: q) : wd T (n + 1) r = (a :: (wd T n (press T r (ix a))).1, (wd T n (press T r (ix a))).2) := by
  conv => lhs; unfold wd
  rw [h]
theorem row_length (T : Mat) (w : List Int) : (row T w).length = T.length := by
  unfold row
  have : ∀ (w : List Int) (r : List Int), r.length = T.length → (w.foldl (fun r a => press T r (ix a)) r).length = T.length := by
    intro w
    induction w with
    | nil => exact fun _ h => h
    | cons a w ih => exact fun r _ => ih _ (press_length _ _ _)
  exact this w _ (by unfold one; rw [List.length_replicate])
theorem r_row_of (BC : Addr) (X : List Addr) (ds : List D) (k : Nat) (R : D → Nat → Prop) (h : sp_row_of BC ds k R) : t_row_of BC (En R) (St0 false 2 ds X k) := by
  obtain ⟨T, d, w, rfl, ht, hw, hl, hd, h⟩ := h
  intro X
  refine ⟨_, rfl, _, rfl, _, rfl, ⟨_, _, rfl⟩, T, rfl, ht.hi, T.length, rfl, by have := ht.hi; omega, ?_⟩
  exact ⟨d, w, T.length, rfl, hw, hl, hd, T, _, w, rfl, ht, .inr rfl, hd, h⟩
theorem r_alike (BC : Addr) (X : List Addr) (ds : List D) (k : Nat) (R : D → Nat → Prop) (h : sp_alike BC ds k R) : t_alike BC (En R) (St0 false 3 ds X k) := by
  obtain ⟨T, d, e, u, w, rfl, ht, hu, lu, du, hw, lw, dw, h⟩ := h
  intro X
  refine ⟨_, rfl, _, rfl, T, d, u, rfl, ht, hu, lu, du, ?_⟩
  refine ⟨_, rfl, _, rfl, T, e, w, rfl, ht, hw, lw, dw, ?_⟩
  refine ⟨okE_tupI _, okE_tupI _, ?_⟩
  rw [eqv_tupI]
  exact h
end BW
namespace BW
open PySem L2 DL
theorem r__law_mixed (X : List Addr) (ds : List D) (k : Nat) (R : D → Nat → Prop) (h : sp__law_mixed ds k R) : t__law_mixed (En R) (St0 false 3 ds X k) := by
  obtain ⟨a, n, rfl, a0, a1, n0, n1, h⟩ := h
  (repeat (first | with_reducible refine ⟨_, rfl, ?_⟩ | refine ⟨_, rfl, ?_⟩ | refine And.intro (by (first | omega | exact Or.inl ⟨by omega, by omega⟩ | exact Or.inr ⟨by omega, by omega⟩ | exact wide_div (b := 40) (by omega) (by omega) (by decide) (by decide) | exact ⟨by omega, by omega⟩ | exact ⟨by omega, by omega, by omega⟩ | exact ⟨by omega, by omega, by omega, by omega⟩ | decide)) ?_))
  intro X
  (repeat (first | with_reducible refine ⟨_, rfl, ?_⟩ | refine ⟨_, rfl, ?_⟩ | refine And.intro (by (first | omega | exact Or.inl ⟨by omega, by omega⟩ | exact Or.inr ⟨by omega, by omega⟩ | exact wide_div (b := 40) (by omega) (by omega) (by decide) (by decide) | exact ⟨by omega, by omega⟩ | exact ⟨by omega, by omega, by omega⟩ | exact ⟨by omega, by omega, by omega, by omega⟩ | decide)) ?_))
  refine h _ ?_ ?_
  · omega
  · omega
end BW
namespace BW
open PySem L2 DL
theorem cut_to {ds : List D} {z : Int} {k : Nat} (h : z = k) : cutD ds none (some z) = ds.take k := by
  subst h
  unfold cutD
  rw [HT.sIx_nat, HT.sIx_none, List.drop_zero, Nat.sub_zero]
  by_cases h : k ≤ ds.length
  · rw [Nat.min_eq_left h]
  · rw [Nat.min_eq_right (by omega), List.take_of_length_le (Nat.le_refl _), List.take_of_length_le (by omega)]
theorem cut_from {ds : List D} {z : Int} {k : Nat} (h : z = k) : cutD ds (some z) none = ds.drop k := by
  subst h
  unfold cutD
  rw [HT.sIx_nat, HT.sIx_none]
  by_cases h : k ≤ ds.length
  · rw [Nat.min_eq_left h, List.take_of_length_le (by rw [List.length_drop]; exact Nat.le_refl _)]
  · rw [Nat.min_eq_right (by omega), Nat.sub_self, List.take_zero, List.drop_eq_nil_of_le (by omega)]
inductive Deed where
  | inn (k : Nat) (a : Int) | out (k : Nat) | turn (k : Nat)
def Deed.d : Deed → D
  | .inn k a => .tup [.str "in", .int k, .int a]
  | .out k => .tup [.str "out", .int k]
  | .turn k => .tup [.str "turn", .int k]
def Deed.k : Deed → Nat
  | .inn k _ => k
  | .out k => k
  | .turn k => k
def mv (T : Mat) (w : List Int) : Deed → Option (List Int)
  | .inn k a => some ((w.take k ++ [a, a]) ++ w.drop k)
  | .out k => if k + 1 < w.length ∧ w.getD k 0 = w.getD (k + 1) 0 then some (w.take k ++ w.drop (k + 2)) else none
  | .turn k => if k + 1 < w.length ∧ w.getD k 0 ≠ w.getD (k + 1) 0 then
      (let a := w.getD k 0
       let b := w.getD (k + 1) 0
       let m := (at2 T (ix a) (ix b)).toNat
       if m ≠ 0 ∧ (w.drop k).take m = alt a b m then some ((w.take k ++ alt b a m) ++ w.drop (k + m)) else none) else none
theorem mv_out (T : Mat) (w : List Int) (k : Nat) : mv T w (.out k) = if k + 1 < w.length ∧ w.getD k 0 = w.getD (k + 1) 0 then some (w.take k ++ w.drop (k + 2)) else none := rfl
theorem mv_turn (T : Mat) (w : List Int) (k : Nat) : mv T w (.turn k) = if k + 1 < w.length ∧ w.getD k 0 ≠ w.getD (k + 1) 0 then
      (if (at2 T (ix (w.getD k 0)) (ix (w.getD (k + 1) 0))).toNat ≠ 0 ∧ (w.drop k).take (at2 T (ix (w.getD k 0)) (ix (w.getD (k + 1) 0))).toNat = alt (w.getD k 0) (w.getD (k + 1) 0) (at2 T (ix (w.getD k 0)) (ix (w.getD (k + 1) 0))).toNat then some ((w.take k ++ alt (w.getD (k + 1) 0) (w.getD k 0) (at2 T (ix (w.getD k 0)) (ix (w.getD (k + 1) 0))).toNat) ++ w.drop (k + (at2 T (ix (w.getD k 0)) (ix (w.getD (k + 1) 0))).toNat)) else none) else none := rfl
end BW
namespace BW
open PySem L2 DL
theorem range_step {α : Type} (f : Nat → α) (j : Nat) : (List.range (j + 1)).map f = (List.range j).map f ++ [f j] := by rw [List.range_succ, List.map_append]; rfl
end BW
namespace BW
open PySem L2 DL
theorem alt_length (a b : Int) (n : Nat) : (alt a b n).length = n := by unfold alt; rw [List.length_map, List.length_range]
theorem alt_mem {a b x : Int} {n : Nat} (h : x ∈ alt a b n) : x = a ∨ x = b := by
  unfold alt at h
  obtain ⟨i, _, rfl⟩ := List.mem_map.mp h
  by_cases c : i % 2 = 0
  · rw [if_pos c]; exact .inl rfl
  · rw [if_neg c]; exact .inr rfl
def Deed.fits (n m : Nat) : Deed → Prop
  | .inn k a => k ≤ m ∧ 1 ≤ a ∧ a ≤ n
  | _ => True
theorem mv_wd {T : Mat} {w v : List Int} {e : Deed} (hw : Wd T.length w) (he : e.fits T.length w.length) (h : mv T w e = some v) : Wd T.length v := by
  have tk : ∀ n x, x ∈ w.take n → x ∈ w := fun n x h => List.mem_of_mem_take h
  have dp : ∀ n x, x ∈ w.drop n → x ∈ w := fun n x h => List.mem_of_mem_drop h
  cases e with
  | inn k a =>
    have h : (w.take k ++ [a, a]) ++ w.drop k = v := Option.some.inj h
    subst h
    intro x hx
    rcases List.mem_append.mp hx with hx | hx
    · rcases List.mem_append.mp hx with hx | hx
      · exact hw x (tk _ _ hx)
      · simp at hx
        subst hx
        exact he.2
    · exact hw x (dp _ _ hx)
  | out k =>
    rw [mv_out] at h
    split at h
    · cases h
      intro x hx
      rcases List.mem_append.mp hx with hx | hx
      · exact hw x (tk _ _ hx)
      · exact hw x (dp _ _ hx)
    · cases h
  | turn k =>
    rw [mv_turn] at h
    split at h
    · rename_i c
      split at h
      · cases h
        have ma := hw (w.getD k 0) (List.mem_of_getElem? (getD_get (d := 0) (by omega : k < w.length)))
        have mb := hw (w.getD (k + 1) 0) (List.mem_of_getElem? (getD_get (d := 0) c.1))
        intro x hx
        rcases List.mem_append.mp hx with hx | hx
        · rcases List.mem_append.mp hx with hx | hx
          · exact hw x (tk _ _ hx)
          · rcases alt_mem hx with e | e
            · rw [e]; exact mb
            · rw [e]; exact ma
        · exact hw x (dp _ _ hx)
      · cases h
    · cases h
def Deed.isIn : Deed → Bool
  | .inn _ _ => true
  | _ => false
theorem mv_len {T : Mat} {w v : List Int} {e : Deed} (h : mv T w e = some v) : v.length ≤ w.length + (if e.isIn = true then 2 else 0) := by
  cases e with
  | inn k a =>
    have h : (w.take k ++ [a, a]) ++ w.drop k = v := Option.some.inj h
    subst h
    show _ ≤ w.length + 2
    rw [List.length_append, List.length_append, List.length_take, List.length_drop]
    show min k w.length + 2 + (w.length - k) ≤ _
    omega
  | out k =>
    rw [mv_out] at h
    split at h
    · cases h
      show _ ≤ w.length + 0
      rw [List.length_append, List.length_take, List.length_drop]
      omega
    · cases h
  | turn k =>
    rw [mv_turn] at h
    split at h
    · rename_i c
      split at h
      · rename_i c2
        cases h
        show _ ≤ w.length + 0
        have l := congrArg List.length c2.2
        rw [alt_length, List.length_take, List.length_drop] at l
        rw [List.length_append, List.length_append, alt_length, List.length_take, List.length_drop]
        omega
      · cases h
    · cases h
end BW
namespace BW
open PySem L2 DL
def exLE (K : PySem.W.Frag) (t : DE) : TE := fun σ H Q => ∃ c, c.K = K ∧ LE c t σ H Q
theorem PE.exE {X : Cx} {e : Expr} {K : PySem.W.Frag} {t : DE} (h : ∀ c, c.K = K → PE X e (LE c t)) : PE X e (exLE K t) := ⟨fun pins s σ H Q I ⟨c, hc, q⟩ => (h c hc).run pins s σ H Q I q⟩
structure Mx (H : Hp) (p : Addr) (qs : List Addr) (M : Mat) : Prop where
  top : H p = some (.lst (qs.map V.ref))
  len : qs.length = M.length
  row : ∀ (i : Nat) (q : Addr) (r : List Int), qs[i]? = some q → M[i]? = some r → H q = some (.lst (r.map V.int))
  nd : qs.Nodup
  out : p ∉ qs
theorem Mx.set {H : Hp} {p q : Addr} {qs : List Addr} {M : Mat} {i : Nat} (h : Mx H p qs M) (hq : qs[i]? = some q) (r' : List Int) : Mx (upd H q (.lst (r'.map V.int))) p qs (M.set i r') := by
  have mem := List.mem_of_getElem? hq
  have npq : p ≠ q := fun z => h.out (z ▸ mem)
  refine ⟨by rw [upd_ne npq]; exact h.top, by rw [List.length_set]; exact h.len, fun j q2 r2 h1 h2 => ?_, h.nd, h.out⟩
  by_cases e : j = i
  · subst e
    rw [hq] at h1
    cases h1
    have hl : j < M.length := by have := (List.getElem?_eq_some_iff.mp h2).1; rw [List.length_set] at this; exact this
    rw [List.getElem?_set_self hl] at h2
    cases h2
    exact upd_same
  · rw [List.getElem?_set_ne (fun z => e z.symm)] at h2
    have ne : q2 ≠ q := fun z => e (by
      subst z
      obtain ⟨h3, e3⟩ := List.getElem?_eq_some_iff.mp h1
      obtain ⟨h4, e4⟩ := List.getElem?_eq_some_iff.mp hq
      exact (List.getElem_inj h.nd).mp (e3.trans e4.symm))
    rw [upd_ne ne]
    exact h.row j q2 r2 h1 h2
structure Keep (M : Option Mc) (X0 : List Addr) (H H' : Hp) : Prop where
  ob : ∀ a o, a ∉ Ml M → H a = some o → NoTb o → H' a = some o
  tb : TbK H H'
  old : ∀ a ∈ X0, H' a = H a
theorem Keep.at {M : Option Mc} {X0 : List Addr} {H H' : Hp} (k : Keep M X0 H H') {a : Addr} {o : HO} (n : a ∉ Ml M) (e : H a = some o) (h : NoTb o := by intro _ z; cases z) : H' a = some o := k.ob a o n e h
theorem Keep.refl {M : Option Mc} {X0 : List Addr} {H : Hp} : Keep M X0 H H := ⟨fun _ _ _ h _ => h, .refl, fun _ _ => rfl⟩
theorem Keep.trans {M : Option Mc} {X0 : List Addr} {H H1 H2 : Hp} (a : Keep M X0 H H1) (b : Keep M X0 H1 H2) : Keep M X0 H H2 := ⟨fun x o n h t => b.ob x o n (a.ob x o n h t) t, a.tb.trans b.tb, fun x h => (b.old x h).trans (a.old x h)⟩
theorem Keep.new {M : Option Mc} {X0 : List Addr} {H H1 : Hp} {p : Addr} {o : HO} (k : Keep M X0 H H1) (xs : ∀ a ∈ X0, H a ≠ none) (h : H1 p = none) : Keep M X0 H (upd H1 p o) := ⟨fun a u n e t => by rw [upd_ne (ne_of_none (k.ob a u n e t) h)]; exact k.ob a u n e t, k.tb.trans (.new h), fun a ha => by
  rw [upd_ne (fun z => xs a ha (by rw [← k.old a ha, z]; exact h))]; exact k.old a ha⟩
theorem Keep.mut {M : Option Mc} {X0 : List Addr} {H H1 : Hp} {p : Addr} {o : HO} (k : Keep M X0 H H1) (xs : ∀ a ∈ X0, H a ≠ none) (h : H p = none) (tb : TbK H1 (upd H1 p o)) : Keep M X0 H (upd H1 p o) := ⟨fun a u n e t => by rw [upd_ne (ne_of_none e h)]; exact k.ob a u n e t, k.tb.trans tb, fun a ha => by
  rw [upd_ne (fun z => xs a ha (by rw [z]; exact h))]; exact k.old a ha⟩
theorem Keep.rep {c : C} {s : S} {σ : L2.St} {H2 : Hp} (r : Rep c s σ H2) (xm : ∀ a ∈ c.X0, a ∉ Ml c.M) (xs : ∀ a ∈ c.X0, c.H0 a ≠ none) : Keep c.M c.X0 c.H0 H2 := ⟨fun a o n e t => by
  by_cases z : a ∈ c.X0
  · rw [r.old a z n (xs a z)]; exact e
  · exact (wo_ne (r.sub a o (wo_of (fun y => (List.mem_append.mp y).elim n z) e t))).2, r.tb, fun a ha => r.old a ha (xm a ha) (xs a ha)⟩
theorem Keep.fresh {M : Option Mc} {X0 : List Addr} {H H' : Hp} (k : Keep M X0 H H') {a : Addr} (n : a ∉ Ml M) (h : H' a = none) : H a = none := by
  cases e : H a with
  | none => rfl
  | some o =>
    by_cases t : NoTb o
    · rw [k.ob a o n e t] at h; cases h
    · refine (t fun ps z => ?_).elim
      subst z
      obtain ⟨qs, q⟩ := k.tb.tbl a ps e
      rw [h] at q; cases q
theorem rep_of {K : PySem.W.Frag} {M : Option Mc} {X0 : List Addr} {H : Hp} {σ : L2.St} {sl : List Sl} {k : Nat} (xm : ∀ a ∈ X0, a ∉ Ml M) (xs : ∀ a ∈ X0, H a ≠ none) (xt : ∀ a ∈ X0, ∀ ps, H a ≠ some (.tbl ps)) (hl : sl.length = σ.length) (hm : MAt M H k) (h : ∀ (i : Nat) (x : Sl), sl[i]? = some x → SlOk ⟨K, M, X0, H, []⟩ X0 H σ[i]? x)
    (no : ∀ (i : Nat) (p : Addr) (ds : List D), sl[i]? ≠ some (.own p ds)) : Rep ⟨K, M, X0, H, []⟩ ⟨X0, sl, k⟩ σ H :=
  ⟨Sub.refl _, fun _ _ _ _ => rfl, fun _ h => h, xm, xs, hm, h, fun i j p q ds es e _ _ => absurd e (no i p ds), hl, .refl, xt⟩
def kin (n : Nat) (f : Bool) (c : Nat) : Int := if f = true ∧ c + 2 = n then 4 else 3
def pmE (n : Nat) (f : Bool) (a i j : Nat) : Int := if i = j then 1 else if j = i + 1 ∧ i < a then kin n f i else if i = j + 1 ∧ j < a then kin n f j else 2
def pm (n : Nat) (f : Bool) (a : Nat) : Mat := (List.range n).map fun i => (List.range n).map fun j => pmE n f a i j
theorem RlA_of {K : PySem.W.Frag} {A : Hp} : ∀ {vs : List V} {ds : List D}, vs.length = ds.length → (∀ (i : Nat) (v : V) (d : D), vs[i]? = some v → ds[i]? = some d → Rl K A v d) → RlA K A vs ds
  | [], [], _, _ => .nil
  | [], _ :: _, h, _ => by cases h
  | _ :: _, [], h, _ => by cases h
  | v :: vs, d :: ds, h, f => .cons (f 0 v d rfl rfl) (RlA_of (Nat.succ.inj h) fun i x y h1 h2 => f (i + 1) x y h1 h2)
theorem Mx.rl {K : PySem.W.Frag} {H : Hp} {p : Addr} {qs : List Addr} {M : Mat} {hid : List Addr} (h : Mx H p qs M) (hp : p ∉ hid) (hq : ∀ q ∈ qs, q ∉ hid) : Rl K (wo H hid) (.ref p) (lM M) := by
  refine .lst (wo_of hp h.top) (RlA_of (by rw [List.length_map, List.length_map]; exact h.len) fun i v d h1 h2 => ?_)
  rw [List.getElem?_map] at h1 h2
  obtain ⟨q, hq1, rfl⟩ := Option.map_eq_some_iff.mp h1
  obtain ⟨r, hr, rfl⟩ := Option.map_eq_some_iff.mp h2
  exact .lst (wo_of (hq q (List.mem_of_getElem? hq1)) (h.row i q r hq1 hr)) (RlA.ints r)
theorem Keep.aft {K : PySem.W.Frag} {M : Option Mc} {X0 : List Addr} {H H' : Hp} {k : Nat} (h : Keep M X0 H H') (hm : MAt M H' k) : Aft K M X0 H H' k := by
  refine ⟨fun a o e => ?_, h.old, hm, h.tb⟩
  have t := wo_tb e
  obtain ⟨n, e⟩ := wo_ne e
  exact wo_of n (h.ob a o (fun z => n (List.mem_append_left _ z)) e t) t
theorem seqAsg {te : TE} {g : TG} {u : TS} {D : Ends} {σ : L2.St} {H : Hp} (h : te σ H fun x H1 => g x σ H1 (u D)) : tSeq (tAsg te g) u D σ H := h
theorem Mx.keepT {H : Hp} {p : Addr} {qs : List Addr} {M : Mat} {T : Addr} {o : HO} (h : Mx H p qs M) (hT : H T = none) : Mx (upd H T o) p qs M :=
  ⟨by rw [upd_ne (ne_of_none h.top hT)]; exact h.top, h.len, fun i q r h1 h2 => by rw [upd_ne (ne_of_none (h.row i q r h1 h2) hT)]; exact h.row i q r h1 h2, h.nd, h.out⟩
theorem set_range {β : Type} {n : Nat} {g g' : Nat → β} {i : Nat} {v : β} (h : ∀ j, j < n → g' j = if j = i then v else g j) : ((List.range n).map g).set i v = (List.range n).map g' := by
  refine List.ext_getElem? fun j => ?_
  rw [List.getElem?_set]
  by_cases hj : j < n
  · rw [List.length_map, List.length_range, List.getElem?_map, List.getElem?_map, List.getElem?_range hj]
    by_cases e : i = j
    · subst e
      rw [if_pos rfl, if_pos hj]
      show some v = some (g' i)
      rw [h i hj, if_pos rfl]
    · rw [if_neg e]
      show some (g j) = some (g' j)
      rw [h j hj, if_neg (fun z => e z.symm)]
  · have e1 : ((List.range n).map g)[j]? = none := by rw [List.getElem?_map, List.getElem?_eq_none (by rw [List.length_range]; omega)]; rfl
    have e2 : ((List.range n).map g')[j]? = none := by rw [List.getElem?_map, List.getElem?_eq_none (by rw [List.length_range]; omega)]; rfl
    rw [e1, e2]
    by_cases e : i = j
    · rw [if_pos e, if_neg (by rw [List.length_map, List.length_range]; omega)]
    · rw [if_neg e]
theorem getD_range {β : Type} {n i : Nat} {g : Nat → β} {d : β} (h : i < n) : ((List.range n).map g).getD i d = g i := by
  rw [List.getD_eq_getElem?_getD, List.getElem?_map, List.getElem?_range h]
  rfl
end BW
namespace BW
open PySem L2 DL
theorem ix_succ (i : Nat) : ix ((i : Int) + 1) = i := by unfold ix; omega
theorem ext_getD {p q : List Int} (hl : p.length = q.length) (h : ∀ j, j < p.length → p.getD j 0 = q.getD j 0) : p = q := by
  refine List.ext_getElem? fun j => ?_
  by_cases hj : j < p.length
  · rw [getD_get (d := 0) hj, getD_get (d := 0) (by omega), h j hj]
  · rw [List.getElem?_eq_none (by omega), List.getElem?_eq_none (by omega)]
end BW
namespace BW
open PySem L2 DL
theorem wts_of {k : Int} (h : k = 2 ∨ k = 3 ∨ k = 4 ∨ k = 6 ∨ k = 0) : wts k = (0, 0) ∧ k = 2 ∨ wts k = (1, 1) ∧ k = 3 ∨ wts k = (1, 2) ∧ k = 4 ∨ wts k = (1, 3) ∧ k = 6 ∨ wts k = (2, 2) ∧ k = 0 := by
  rcases h with rfl | rfl | rfl | rfl | rfl
  · exact .inl ⟨rfl, rfl⟩
  · exact .inr (.inl ⟨rfl, rfl⟩)
  · exact .inr (.inr (.inl ⟨rfl, rfl⟩))
  · exact .inr (.inr (.inr (.inl ⟨rfl, rfl⟩)))
  · exact .inr (.inr (.inr (.inr ⟨rfl, rfl⟩)))
theorem wt_two {T : Mat} (ht : Tab T) {i j : Nat} (hi : i < T.length) (hj : j < T.length) (ne : i ≠ j) :
    (at2 T i j = 2 ∧ wt T i j = 0 ∧ wt T j i = 0) ∨ (at2 T i j = 3 ∧ wt T i j = 1 ∧ wt T j i = 1) ∨ (at2 T i j = 4 ∧ wt T i j = 1 ∧ wt T j i = 2) ∨ (at2 T i j = 4 ∧ wt T i j = 2 ∧ wt T j i = 1) ∨ (at2 T i j = 6 ∧ wt T i j = 1 ∧ wt T j i = 3) ∨ (at2 T i j = 6 ∧ wt T i j = 3 ∧ wt T j i = 1) ∨ (at2 T i j = 0 ∧ wt T i j = 2 ∧ wt T j i = 2) := by
  have sy := ht.sy i j hi hj
  have w1 : wt T i j = if i < j then (wts (at2 T i j)).1 else (wts (at2 T i j)).2 := by unfold wt; rw [if_neg ne]
  have w2 : wt T j i = if j < i then (wts (at2 T i j)).1 else (wts (at2 T i j)).2 := by unfold wt; rw [if_neg (fun z => ne z.symm), ← sy]
  by_cases h : i < j
  · rw [if_pos h] at w1
    rw [if_neg (by omega)] at w2
    rcases wts_of (ht.of i j hi hj ne) with ⟨e, e2⟩ | ⟨e, e2⟩ | ⟨e, e2⟩ | ⟨e, e2⟩ | ⟨e, e2⟩ <;> rw [e] at w1 w2 <;> simp only [] at w1 w2 <;> omega
  · rw [if_neg h] at w1
    rw [if_pos (by omega)] at w2
    rcases wts_of (ht.of i j hi hj ne) with ⟨e, e2⟩ | ⟨e, e2⟩ | ⟨e, e2⟩ | ⟨e, e2⟩ | ⟨e, e2⟩ <;> rw [e] at w1 w2 <;> simp only [] at w1 w2 <;> omega
theorem car_of {T : Mat} (ht : Tab T) : TT.Car T.length (wt T) := by
  refine ⟨fun i _ => by unfold wt; rw [if_pos rfl], fun i j hi hj ne => ?_⟩
  have := wt_two ht hi hj ne
  omega
def pg (n : Nat) (r : List Int) (x : TT.Vec) : Int := TT.sm (fun j => r.getD j 0 * x j) n
theorem pg_mv {n : Nat} {r : List Int} {x : TT.Vec} {t : Int} {b : Nat} (hb : b < n) : pg n r (TT.mv x t b) = pg n r x + r.getD b 0 * t := by
  unfold pg
  rw [TT.sm_congr (g := fun a => r.getD a 0 * x a + t * (r.getD a 0 * TT.eb b a)) (fun j _ => by rw [TT.mv_dif, Int.mul_add, Int.mul_left_comm]), TT.sm_add, TT.sm_mul, TT.sm_eb hb, Int.mul_comm t]
theorem press_get {T : Mat} {r : List Int} {i j : Nat} (hj : j < T.length) : (press T r i).getD j 0 = r.getD j 0 + wt T i j * r.getD i 0 := by unfold press; rw [getD_range hj]
theorem press_len (T : Mat) (r : List Int) (i : Nat) : (press T r i).length = T.length := by unfold press; rw [List.length_map, List.length_range]
theorem pg_press {T : Mat} {r : List Int} {x : TT.Vec} {i : Nat} (hi : i < T.length) : pg T.length (press T r i) x = pg T.length r (TT.sg T.length (wt T) i x) := by
  unfold TT.sg
  rw [pg_mv hi]
  unfold pg TT.pr
  rw [TT.sm_congr (g := fun j => r.getD j 0 * x j + r.getD i 0 * (wt T i j * x j)) (fun j hj => by
    rw [press_get hj, Int.add_mul, Int.mul_comm (wt T i j) (r.getD i 0), Int.mul_assoc]), TT.sm_add, TT.sm_mul]
def pl (T : Mat) (r : List Int) (w : List Int) : List Int := w.foldl (fun r a => press T r (ix a)) r
theorem row_pl (T : Mat) (w : List Int) : row T w = pl T (one T) w := rfl
theorem pl_len {T : Mat} : ∀ {w : List Int} {r : List Int}, r.length = T.length → (pl T r w).length = T.length
  | [], _, h => h
  | a :: w, r, h => pl_len (w := w) (press_len T r (ix a))
theorem ix_lt {n : Nat} {a : Int} (h : 1 ≤ a ∧ a ≤ n) : ix a < n := by unfold ix; omega
theorem lets_of {n : Nat} {w : List Int} (h : Wd n w) : TT.lets n (w.map ix) := fun a ha => by
  obtain ⟨z, hz, rfl⟩ := List.mem_map.mp ha
  exact ix_lt (h z hz)
theorem pg_pl {T : Mat} {x : TT.Vec} : ∀ {w : List Int} {r : List Int}, Wd T.length w → pg T.length (pl T r w) x = pg T.length r (TT.act T.length (wt T) (w.map ix) x)
  | [], _, _ => rfl
  | a :: w, r, h => by
    show pg T.length (pl T (press T r (ix a)) w) x = pg T.length r (TT.sg T.length (wt T) (ix a) (TT.act T.length (wt T) (w.map ix) x))
    rw [pg_pl (fun z hz => h z (List.mem_cons_of_mem _ hz)), pg_press (ix_lt (h a List.mem_cons_self))]
theorem pg_eb {n : Nat} {r : List Int} {c : Nat} (hc : c < n) : pg n r (TT.eb c) = r.getD c 0 := TT.sm_eb (f := fun j => r.getD j 0) hc
theorem pg_one {T : Mat} {x : TT.Vec} : pg T.length (one T) x = TT.sm x T.length := by
  refine TT.sm_congr fun j hj => ?_
  have : (one T).getD j 0 = 1 := by unfold one; rw [List.getD_eq_getElem?_getD, List.getElem?_replicate, if_pos hj]; rfl
  rw [this, Int.one_mul]
theorem row_hv {T : Mat} {w : List Int} (h : Wd T.length w) {c : Nat} (hc : c < T.length) : (row T w).getD c 0 = TT.hv T.length (wt T) (w.map ix) c := by
  rw [← pg_eb hc, row_pl, pg_pl h, pg_one]
  rfl
theorem one_len (T : Mat) : (one T).length = T.length := by unfold one; exact List.length_replicate
theorem row_eq_iff {T : Mat} {w v : List Int} (hw : Wd T.length w) (hv : Wd T.length v) : row T w = row T v ↔ TT.Rw T.length (wt T) (w.map ix) (v.map ix) := by
  constructor
  · intro h c hc
    rw [← row_hv hw hc, ← row_hv hv hc, h]
  · intro h
    refine ext_getD (by rw [row_length, row_length]) fun j hj => ?_
    rw [row_length] at hj
    rw [row_hv hw hj, row_hv hv hj]
    exact h j hj
theorem row_nz {T : Mat} (ht : Tab T) {w : List Int} (hw : Wd T.length w) {c : Nat} (hc : c < T.length) : (row T w).getD c 0 ≠ 0 := by
  rw [row_hv hw hc]
  exact TT.hv_ne (car_of ht) hc (lets_of hw)
theorem row_snoc {T : Mat} {w : List Int} {a : Int} : row T (w ++ [a]) = press T (row T w) (ix a) := by unfold row; rw [List.foldl_append]; rfl
theorem wd_app {n : Nat} {u v : List Int} (hu : Wd n u) (hv : Wd n v) : Wd n (u ++ v) := fun a ha => (List.mem_append.mp ha).elim (hu a) (hv a)
theorem wd_one {n : Nat} {i : Nat} (h : i < n) : Wd n [(i : Int) + 1] := fun a ha => by simp at ha; omega
abbrev LN (T : Mat) (w : List Int) (k : Nat) : Prop := TT.Ln T.length (wt T) (w.map ix) k
theorem fall_none {r : List Int} (h : fall r = []) {c : Nat} (hc : c < r.length) : 0 ≤ r.getD c 0 := by
  unfold fall at h
  have h2 := List.map_eq_nil_iff.mp h
  by_cases q : r.getD c 0 < 0
  · have : c ∈ (List.range r.length).filter fun i => decide (r.getD i 0 < 0) := List.mem_filter.mpr ⟨List.mem_range.mpr hc, decide_eq_true q⟩
    rw [h2] at this
    cases this
  · omega
theorem LN.none {T : Mat} (ht : Tab T) {w : List Int} (hw : Wd T.length w) {k : Nat} (h : LN T w k) (hf : fall (row T w) = []) : k = 0 ∧ row T w = one T := by
  have hk : k = 0 := h.of_pos (car_of ht) (lets_of hw) fun c hc => by
    have h1 := fall_none hf (c := c) (by rw [row_length]; exact hc)
    have h2 := row_nz ht hw hc
    rw [row_hv hw hc] at h1 h2
    omega
  refine ⟨hk, ext_getD (by rw [row_length, one_len]) fun j hj => ?_⟩
  rw [row_length] at hj
  rw [row_hv hw hj]
  subst hk
  rw [h.zero j hj]
  unfold one
  rw [List.getD_eq_getElem?_getD, List.getElem?_replicate, if_pos hj]
  rfl
theorem LN.step {T : Mat} (ht : Tab T) {w : List Int} (hw : Wd T.length w) {k : Nat} (h : LN T w k) {a : Int} (ha : a ∈ fall (row T w)) : ∃ j, k = j + 1 ∧ LN T (w ++ [a]) j ∧ Wd T.length (w ++ [a]) ∧ press T (row T w) (ix a) = row T (w ++ [a]) := by
  obtain ⟨i, rfl, hi, hn⟩ := fall_mem ha
  rw [row_length] at hi
  have ei : ix ((i : Int) + 1) = i := by unfold ix; omega
  rw [row_hv hw hi] at hn
  obtain ⟨j, e, hj⟩ := h.down (car_of ht) hi (lets_of hw) hn
  refine ⟨j, e, ?_, wd_app hw (wd_one hi), row_snoc.symm⟩
  show TT.Ln T.length (wt T) ((w ++ [(i : Int) + 1]).map ix) j
  rw [List.map_append, List.map_cons, List.map_nil, ei]
  exact hj
theorem wd_len {T : Mat} (ht : Tab T) : ∀ (k : Nat) {w : List Int} {f : Nat}, Wd T.length w → LN T w k → k ≤ f → (wd T f (row T w)).1.length = k ∧ (wd T f (row T w)).2 = one T
  | k, w, f, hw, h, hf => by
    cases e : fall (row T w) with
    | nil =>
      obtain ⟨rfl, e2⟩ := h.none ht hw e
      rw [wd_nil e]
      exact ⟨rfl, e2⟩
    | cons a q =>
      obtain ⟨j, rfl, h1, h2, h3⟩ := h.step ht hw (a := a) (by rw [e]; exact List.mem_cons_self)
      obtain ⟨g, rfl⟩ : ∃ g, f = g + 1 := ⟨f - 1, by omega⟩
      rw [wd_cons e, h3]
      obtain ⟨i1, i2⟩ := wd_len ht j (f := g) h2 h1 (by omega)
      refine ⟨?_, i2⟩
      show (wd T g (row T (w ++ [a]))).1.length + 1 = j + 1
      rw [i1]
theorem LN.has {T : Mat} {w : List Int} (hw : Wd T.length w) : ∃ k, LN T w k ∧ k ≤ w.length := by
  obtain ⟨k, h⟩ := TT.Ln.has (W := wt T) (lets_of hw)
  exact ⟨k, h, by have := h.le_len (lets_of hw); rw [List.length_map] at this; exact this⟩
section
variable {n : Nat} {W : Nat → Nat → Int}
theorem sgV_b (C : TT.Car n W) {b c : Nat} (hb : b < n) (hc : c < n) (ne : c ≠ b) {x : TT.Vec} {s t : Int} : TT.sg n W b (TT.VV x b c s t) = TT.VV x b c (TT.pr n W b x - s + W b c * t) t := by
  unfold TT.sg
  rw [TT.pr_mv hc, TT.pr_mv hb, C.dg b hb, TT.mv_comm ne, TT.mv_mv]
  congr 2
  omega
theorem sgV_c (C : TT.Car n W) {b c : Nat} (hb : b < n) (hc : c < n) {x : TT.Vec} {s t : Int} : TT.sg n W c (TT.VV x b c s t) = TT.VV x b c s (TT.pr n W c x + W c b * s - t) := by
  unfold TT.sg
  rw [TT.pr_mv hc, TT.pr_mv hb, C.dg c hc, TT.mv_mv]
  congr 1
  omega
theorem V00 {b c : Nat} {x : TT.Vec} : x = TT.VV x b c 0 0 := by
  show x = TT.mv (TT.mv x 0 b) 0 c
  rw [TT.mv_zero, TT.mv_zero]
def alN (a b : Nat) : Nat → List Nat
  | 0 => []
  | k + 1 => a :: alN b a k
theorem braid (C : TT.Car n W) {b c : Nat} (hb : b < n) (hc : c < n) (ne : b ≠ c) {m : Nat} (hm : (m = 2 ∧ W b c = 0 ∧ W c b = 0) ∨ (m = 3 ∧ W b c = 1 ∧ W c b = 1) ∨ (m = 4 ∧ W b c = 1 ∧ W c b = 2) ∨ (m = 4 ∧ W b c = 2 ∧ W c b = 1) ∨ (m = 6 ∧ W b c = 1 ∧ W c b = 3) ∨ (m = 6 ∧ W b c = 3 ∧ W c b = 1)) (x : TT.Vec) :
    TT.act n W (alN b c m) x = TT.act n W (alN c b m) x := by
  have hB := fun s t => sgV_b C hb hc (fun z => ne z.symm) (x := x) (s := s) (t := t)
  have hC := fun s t => sgV_c C hb hc (x := x) (s := s) (t := t)
  have h0 := V00 (b := b) (c := c) (x := x)
  generalize TT.pr n W b x = P at hB
  generalize TT.pr n W c x = Q at hC
  generalize hV : TT.VV x b c = V at *
  rcases hm with ⟨rfl, u, v⟩ | ⟨rfl, u, v⟩ | ⟨rfl, u, v⟩ | ⟨rfl, u, v⟩ | ⟨rfl, u, v⟩ | ⟨rfl, u, v⟩ <;> rw [u] at hB <;> rw [v] at hC <;> rw [h0] <;> unfold TT.act <;> simp only [alN, List.foldr_cons, List.foldr_nil, hB, hC] <;> congr 1 <;> omega
end
end BW
namespace DL
open PySem L2
open PySem.W (Frag)
theorem RlA.bls_v {K : Frag} {A : Hp} : ∀ {bs : List Bool} {vs : List V}, RlA K A vs (bs.map D.bl) → vs = bs.map V.bl
  | [], _, .nil => rfl
  | b :: r, _, .cons h q => by
    cases h
    rw [RlA.bls_v q]
    rfl
abbrev dAll (t : DE) : DE := fun s Q => t s fun d k => ∃ bs : List Bool, d = .lst (bs.map .bl) ∧ Q (.bl (bs.all id)) k
section
variable {X : Cx} {c : C} {p pos : Pos}
theorem pd_all (hK : c.K = X.K) (hm : X.mg "all" = none) (hc : X.calm = true) {e : Expr} {t : DE} (h : PE X e (LE c t)) (hg : Gl X "all" := by rfl) (hs : starEach [e] X.env = (false, eval e X.env) :: starEach [] X.env := by rfl) (hp : (backTo pos (starEach [] X.env)).any (·.1) = false := by rfl) :
    PE X (.Call (.Name "all" p) [e] [] pos) (LE c (dAll t)) :=
  (pe_callB (cr_all hc) hg hm (by first | exact PySem.boot_all | exact PyProof.Rows.boot_all | rfl) (pa_cons h pa_nil hs) (he := hs) (hpl := hp)).weak fun σ H Q ⟨s, R, rp, q, f⟩ => ⟨s, _, rp, q, fun d k ⟨bs, h1, h2⟩ v H1 r1 a1 e1 => by
    subst h1
    obtain ⟨a, vs, rfl, h, r⟩ := e1.lstE
    obtain rfl := r.bls_v
    exact ⟨a, bs, rfl, hK ▸ SqL.of (wo_sub _ _ _ _ h), f _ k h2 _ H1 r1 a1 (.bl _)⟩⟩
end
end DL
namespace BW
open PySem L2 DL
theorem alt_succ (a b : Int) (n : Nat) : alt a b (n + 1) = a :: alt b a n := by
  unfold alt
  rw [List.range_succ_eq_map, List.map_cons, List.map_map]
  congr 1
  refine List.map_congr_left fun i _ => ?_
  show (if (i + 1) % 2 = 0 then a else b) = if i % 2 = 0 then b else a
  by_cases h : i % 2 = 0
  · rw [if_pos h, if_neg (by omega)]
  · rw [if_neg h, if_pos (by omega)]
theorem alt_ix (i j : Nat) : ∀ n, (alt ((i : Int) + 1) ((j : Int) + 1) n).map ix = alN i j n
  | 0 => rfl
  | n + 1 => by
    rw [alt_succ, List.map_cons, alt_ix j i n]
    show ix ((i : Int) + 1) :: _ = i :: _
    rw [ix_succ]
theorem alt_wd {n : Nat} {a b : Int} (ha : 1 ≤ a ∧ a ≤ n) (hb : 1 ≤ b ∧ b ≤ n) (m : Nat) : Wd n (alt a b m) := fun z hz => by
  unfold alt at hz
  obtain ⟨i, _, rfl⟩ := List.mem_map.mp hz
  split
  · exact ha
  · exact hb
theorem pl_alt {T : Mat} (ht : Tab T) {r : List Int} (hr : r.length = T.length) {i j : Nat} (hi : i < T.length) (hj : j < T.length) (ne : i ≠ j) (h : 0 < at2 T i j) :
    pl T r (alt ((i : Int) + 1) ((j : Int) + 1) (at2 T i j).toNat) = pl T r (alt ((j : Int) + 1) ((i : Int) + 1) (at2 T i j).toNat) := by
  refine ext_getD (by rw [pl_len hr, pl_len hr]) fun c hc => ?_
  rw [pl_len hr] at hc
  have a1 : Wd T.length (alt ((i : Int) + 1) ((j : Int) + 1) (at2 T i j).toNat) := alt_wd ⟨by omega, by omega⟩ ⟨by omega, by omega⟩ _
  have a2 : Wd T.length (alt ((j : Int) + 1) ((i : Int) + 1) (at2 T i j).toNat) := alt_wd ⟨by omega, by omega⟩ ⟨by omega, by omega⟩ _
  have hm : ((at2 T i j).toNat = 2 ∧ wt T i j = 0 ∧ wt T j i = 0) ∨ ((at2 T i j).toNat = 3 ∧ wt T i j = 1 ∧ wt T j i = 1) ∨ ((at2 T i j).toNat = 4 ∧ wt T i j = 1 ∧ wt T j i = 2) ∨ ((at2 T i j).toNat = 4 ∧ wt T i j = 2 ∧ wt T j i = 1) ∨ ((at2 T i j).toNat = 6 ∧ wt T i j = 1 ∧ wt T j i = 3) ∨ ((at2 T i j).toNat = 6 ∧ wt T i j = 3 ∧ wt T j i = 1) := by
    rcases wt_two ht hi hj ne with ⟨e, u, v⟩ | ⟨e, u, v⟩ | ⟨e, u, v⟩ | ⟨e, u, v⟩ | ⟨e, u, v⟩ | ⟨e, u, v⟩ | ⟨e, u, v⟩
    · exact .inl ⟨by rw [e]; rfl, u, v⟩
    · exact .inr (.inl ⟨by rw [e]; rfl, u, v⟩)
    · exact .inr (.inr (.inl ⟨by rw [e]; rfl, u, v⟩))
    · exact .inr (.inr (.inr (.inl ⟨by rw [e]; rfl, u, v⟩)))
    · exact .inr (.inr (.inr (.inr (.inl ⟨by rw [e]; rfl, u, v⟩))))
    · exact .inr (.inr (.inr (.inr (.inr ⟨by rw [e]; rfl, u, v⟩))))
    · rw [e] at h; exact absurd h (by decide)
  rw [← pg_eb hc, ← pg_eb hc, pg_pl a1, pg_pl a2, alt_ix, alt_ix, braid (car_of ht) hi hj ne hm]
end BW
namespace BW
open PySem L2 DL
theorem step2 {T : Mat} (ht : Tab T) {w : List Int} (hw : Wd T.length w) {k : Nat} (h : LN T w k) {i j : Nat} (hi : i < T.length) (hj : j < T.length) {x y u : Int} (ex : (row T w).getD i 0 = x) (ey : (row T w).getD j 0 = y) (eu : wt T i j = u) (nx : x < 0) :
    ∃ l, k = l + 1 ∧ LN T (w ++ [(i : Int) + 1]) l ∧ Wd T.length (w ++ [(i : Int) + 1]) ∧ (row T (w ++ [(i : Int) + 1])).getD i 0 = -x ∧ (row T (w ++ [(i : Int) + 1])).getD j 0 = y + u * x := by
  have em : (w ++ [(i : Int) + 1]).map ix = w.map ix ++ [i] := by rw [List.map_append, List.map_cons, List.map_nil, ix_succ]
  have hn : TT.hv T.length (wt T) (w.map ix) i < 0 := by rw [← row_hv hw hi, ex]; exact nx
  obtain ⟨l, e, hl⟩ := h.down (car_of ht) hi (lets_of hw) hn
  have e1 : wt T i i = -2 := by unfold wt; rw [if_pos rfl]
  refine ⟨l, e, ?_, wd_app hw (wd_one hi), ?_, ?_⟩
  · show TT.Ln T.length (wt T) ((w ++ [(i : Int) + 1]).map ix) l
    rw [em]
    exact hl
  · rw [row_snoc, ix_succ, press_get hi, ex, e1]
    omega
  · rw [row_snoc, ix_succ, press_get hj, ex, ey, eu]
theorem LN.one_of {T : Mat} (ht : Tab T) {w : List Int} (hw : Wd T.length w) (h : LN T w 0) {i : Nat} (hi : i < T.length) : (row T w).getD i 0 = 1 := by
  rw [row_hv hw hi]
  exact TT.Ln.zero h i hi
theorem no_free {T : Mat} (ht : Tab T) {i j : Nat} (hi : i < T.length) (hj : j < T.length) (eu : wt T i j = 2) (ev : wt T j i = 2) : ∀ (k : Nat) {w : List Int}, Wd T.length w → LN T w k → (row T w).getD i 0 + (row T w).getD j 0 < 0 → False
  | 0, w, hw, h, s => by rw [h.one_of ht hw hi, h.one_of ht hw hj] at s; omega
  | k + 1, w, hw, h, s => by
    by_cases c : (row T w).getD i 0 < 0
    · obtain ⟨l, e, h1, h2, h3, h4⟩ := step2 ht hw h hi hj rfl rfl eu c
      obtain rfl : k = l := by omega
      exact no_free ht hi hj eu ev k h2 h1 (by rw [h3, h4]; omega)
    · obtain ⟨l, e, h1, h2, h3, h4⟩ := step2 ht hw h hj hi rfl rfl ev (by omega : (row T w).getD j 0 < 0)
      obtain rfl : k = l := by omega
      exact no_free ht hi hj eu ev k h2 h1 (by rw [h3, h4]; omega)
inductive Dn (T : Mat) : Nat → Nat → Nat → List Int → Nat → Prop
  | zero {i j : Nat} {w : List Int} {k : Nat} : LN T w k → Dn T i j 0 w k
  | succ {i j m : Nat} {w : List Int} {k : Nat} : Dn T j i m (w ++ [(i : Int) + 1]) k → Dn T i j (m + 1) w (k + 1)
theorem Dn.end_ {T : Mat} : ∀ {m i j : Nat} {w : List Int} {k : Nat}, Dn T i j m w k → ∃ l, k = l + m ∧ LN T (w ++ alt ((i : Int) + 1) ((j : Int) + 1) m) l
  | 0, i, j, w, k, h => by
    cases h with
    | zero h => exact ⟨k, rfl, by rw [show alt ((i : Int) + 1) ((j : Int) + 1) 0 = [] from rfl, List.append_nil]; exact h⟩
  | m + 1, i, j, w, _, h => by
    cases h with
    | succ h =>
      obtain ⟨l, e, hl⟩ := h.end_
      refine ⟨l, by omega, ?_⟩
      rw [alt_succ, show w ++ ((i : Int) + 1) :: alt ((j : Int) + 1) ((i : Int) + 1) m = (w ++ [(i : Int) + 1]) ++ alt ((j : Int) + 1) ((i : Int) + 1) m by rw [List.append_assoc]; rfl]
      exact hl
theorem dn_two {T : Mat} (ht : Tab T) {w : List Int} (hw : Wd T.length w) {k : Nat} (h : LN T w k) {i j : Nat} (hi : i < T.length) (hj : j < T.length) (ne : i ≠ j) (ni : (row T w).getD i 0 < 0) (nj : (row T w).getD j 0 < 0) :
    0 < at2 T i j ∧ Dn T i j (at2 T i j).toNat w k := by
  generalize ex : (row T w).getD i 0 = x at ni
  generalize ey : (row T w).getD j 0 = y at nj
  rcases wt_two ht hi hj ne with ⟨e, u, v⟩ | ⟨e, u, v⟩ | ⟨e, u, v⟩ | ⟨e, u, v⟩ | ⟨e, u, v⟩ | ⟨e, u, v⟩ | ⟨e, u, v⟩
  · rw [e]
    refine ⟨by decide, ?_⟩
    obtain ⟨k1, rfl, h1, w1, x1, y1⟩ := step2 ht hw h hi hj ex ey u ni
    obtain ⟨k2, rfl, h2, w2, x2, y2⟩ := step2 ht w1 h1 hj hi y1 x1 v (by omega)
    exact .succ (.succ (.zero h2))
  · rw [e]
    refine ⟨by decide, ?_⟩
    obtain ⟨k1, rfl, h1, w1, x1, y1⟩ := step2 ht hw h hi hj ex ey u ni
    obtain ⟨k2, rfl, h2, w2, x2, y2⟩ := step2 ht w1 h1 hj hi y1 x1 v (by omega)
    obtain ⟨k3, rfl, h3, w3, x3, y3⟩ := step2 ht w2 h2 hi hj y2 x2 u (by omega)
    exact .succ (.succ (.succ (.zero h3)))
  · rw [e]
    refine ⟨by decide, ?_⟩
    obtain ⟨k1, rfl, h1, w1, x1, y1⟩ := step2 ht hw h hi hj ex ey u ni
    obtain ⟨k2, rfl, h2, w2, x2, y2⟩ := step2 ht w1 h1 hj hi y1 x1 v (by omega)
    obtain ⟨k3, rfl, h3, w3, x3, y3⟩ := step2 ht w2 h2 hi hj y2 x2 u (by omega)
    obtain ⟨k4, rfl, h4, w4, x4, y4⟩ := step2 ht w3 h3 hj hi y3 x3 v (by omega)
    exact .succ (.succ (.succ (.succ (.zero h4))))
  · rw [e]
    refine ⟨by decide, ?_⟩
    obtain ⟨k1, rfl, h1, w1, x1, y1⟩ := step2 ht hw h hi hj ex ey u ni
    obtain ⟨k2, rfl, h2, w2, x2, y2⟩ := step2 ht w1 h1 hj hi y1 x1 v (by omega)
    obtain ⟨k3, rfl, h3, w3, x3, y3⟩ := step2 ht w2 h2 hi hj y2 x2 u (by omega)
    obtain ⟨k4, rfl, h4, w4, x4, y4⟩ := step2 ht w3 h3 hj hi y3 x3 v (by omega)
    exact .succ (.succ (.succ (.succ (.zero h4))))
  · rw [e]
    refine ⟨by decide, ?_⟩
    obtain ⟨k1, rfl, h1, w1, x1, y1⟩ := step2 ht hw h hi hj ex ey u ni
    obtain ⟨k2, rfl, h2, w2, x2, y2⟩ := step2 ht w1 h1 hj hi y1 x1 v (by omega)
    obtain ⟨k3, rfl, h3, w3, x3, y3⟩ := step2 ht w2 h2 hi hj y2 x2 u (by omega)
    obtain ⟨k4, rfl, h4, w4, x4, y4⟩ := step2 ht w3 h3 hj hi y3 x3 v (by omega)
    obtain ⟨k5, rfl, h5, w5, x5, y5⟩ := step2 ht w4 h4 hi hj y4 x4 u (by omega)
    obtain ⟨k6, rfl, h6, w6, x6, y6⟩ := step2 ht w5 h5 hj hi y5 x5 v (by omega)
    exact .succ (.succ (.succ (.succ (.succ (.succ (.zero h6))))))
  · rw [e]
    refine ⟨by decide, ?_⟩
    obtain ⟨k1, rfl, h1, w1, x1, y1⟩ := step2 ht hw h hi hj ex ey u ni
    obtain ⟨k2, rfl, h2, w2, x2, y2⟩ := step2 ht w1 h1 hj hi y1 x1 v (by omega)
    obtain ⟨k3, rfl, h3, w3, x3, y3⟩ := step2 ht w2 h2 hi hj y2 x2 u (by omega)
    obtain ⟨k4, rfl, h4, w4, x4, y4⟩ := step2 ht w3 h3 hj hi y3 x3 v (by omega)
    obtain ⟨k5, rfl, h5, w5, x5, y5⟩ := step2 ht w4 h4 hi hj y4 x4 u (by omega)
    obtain ⟨k6, rfl, h6, w6, x6, y6⟩ := step2 ht w5 h5 hj hi y5 x5 v (by omega)
    exact .succ (.succ (.succ (.succ (.succ (.succ (.zero h6))))))
  · exact (no_free ht hi hj u v k hw h (by rw [ex, ey]; omega)).elim
theorem row_alt {T : Mat} (ht : Tab T) {w : List Int} (hw : Wd T.length w) {i j : Nat} (hi : i < T.length) (hj : j < T.length) (ne : i ≠ j) (h : 0 < at2 T i j) :
    row T (w ++ alt ((i : Int) + 1) ((j : Int) + 1) (at2 T i j).toNat) = row T (w ++ alt ((j : Int) + 1) ((i : Int) + 1) (at2 T i j).toNat) := by
  have q := pl_alt ht (r := row T w) (row_length T w) hi hj ne h
  unfold pl at q
  unfold row at q ⊢
  rw [List.foldl_append, List.foldl_append]
  exact q
end BW
namespace L2G
open PySem PySem.Spec PyProof.Rows L2
structure FnG (P : Program) (w : World) (K : PySem.W.Frag) (mg : Str → Option Value) (base : Heap) (k : Nat) (f : Addr) (fd : FuncData) (ps : List Str) (sp : Sp) : Prop where
  len : ∀ vs H Q E, sp vs H Q E → vs.length = ps.length
  run : ∀ (A : Around) (ou : List Env) (s : Shared) (H : Hp) (ar : Args) (us : List Value) (vs : List V) (Q : VK) (E : XK), Room k A → A.guards = some [] → Env0 P w K mg base A ou s H → BindsTo s fd ar (ps.zip us) → Vals vs us → sp vs H Q E →
    codeAny (model P w) A (.call (.ref f) ar) (CR CX0 ou P w H s Q E) s
section
variable {P : Program} {w : World} {K : PySem.W.Frag} {mg : Str → Option Value} {base : Heap}
theorem FnG.of {k : Nat} {f : Addr} {fd : FuncData} {ps : List Str} {sp : Sp} (F : FnOk P w K mg base CX0 k f fd ps sp) : FnG P w K mg base k f fd ps sp :=
  ⟨F.len, fun A ou s H ar us vs Q E r _ e b v h => F.run A ou s H ar us vs Q E r e b v h⟩
theorem okG {x qual : Str} {st : Stmt} {f : Addr} {fd : FuncData} {N ps : List Str} {k : Nat} {sp : Sp} (F : Fun K x qual st f fd) (S : FnScope N ps (defScope st)) (ln : ∀ vs H Q E, sp vs H Q E → vs.length = ps.length)
    (bd : ∀ (cdv : Value) (A : Around) (ou : List Env) (s : Shared) (H : Hp) (vs : List V) (Q : VK) (E : XK), Room k (A.deeper (envOfC qual (defScope st) s.heap.objs.size f cdv)) → (A.deeper (envOfC qual (defScope st) s.heap.objs.size f cdv)).guards = some [] → sp vs H Q E →
      ∃ t, PSs (cxOf CX0 P w K mg base N qual (defScope st) f cdv A ou s H E).nox (defBody st) t ∧ t { nx := fun _ H' => Q .non H', rt := Q } (L2.start N vs) H) : FnG P w K mg base (k + 1) f fd ps sp := by
  obtain ⟨oc, od, kV, doc, pm, an, cdv, ct, osl, rfl, lk, cdok⟩ := F.ex
  refine ⟨ln, fun A ou s H ar us vs Q E room gu en bi rv hs => ?_⟩
  have lv := ln _ _ _ _ hs
  have inK : K.In s.heap := en.mod.kin.keeps fun a u z => (en.bs a u z).1
  have nlim : s.heap.NoLimit := en.mod.nolimit.keeps fun a u z => (en.bs a u z).1
  have kinds : ∀ y ∈ ps.zip us, (defScope st).names.lookup y.1 = some .local ∨ ((defScope st).names.lookup y.1 = some .cell ∧ ((cellsFrom (s.heap.objs.size + 1) (defScope st).names []).lookup y.1).isSome = true) := by
    rintro ⟨nm, vl⟩ hy
    exact (S.par nm (List.of_mem_zip hy).1).imp id fun z => ⟨z, PySem.W.cellsFrom_some _ _ _ (.inl z)⟩
  refine codeAny_call_function room.depth (inK _ _ lk) rfl S.co S.gen rfl (PySem.W.codeRec_of inK cdok) (bi _ _ _ _ ?_)
  refine wpAny_newFunctionEnv_cells S.kind kinds fun env same s1 ic => ?_
  subst same
  refine ⟨nlim.keeps ic.toInCall.keep, codeAny_func ?_⟩
  obtain ⟨t, walk, ends⟩ := bd cdv A ou s H vs Q E (room.deeper _) gu hs
  have I0 := inv_start (CX := CX0) (E := E) S room.hd en lv rv ic
  refine wpAny_mono (walk.nox.run [] s1 (L2.start N vs) H _ I0 ends) (fun fl s2 hfl => ?_) fun _ _ z => z
  cases fl with
  | ret u =>
    obtain ⟨v, τ, H2, J, r2, q2⟩ := hfl
    exact ⟨v, H2, J.os, J.bare, J.base, J.hok, r2, q2⟩
  | next =>
    obtain ⟨τ, H2, J, q2⟩ := hfl
    exact ⟨V.non, H2, J.os, J.bare, J.base, J.hok, rfl, q2⟩
  | brk =>
    obtain ⟨_, _, _, q2⟩ := hfl
    exact q2.elim
  | cont =>
    obtain ⟨_, _, _, q2⟩ := hfl
    exact q2.elim
end
section
variable {X : Cx} {k : Nat} {f : Addr} {fd : FuncData} {ps : List Str} {sp : Sp} {x : Str} {p pos : Pos} {e : Expr} {es : List Expr} {t : TA} {E : XK}
theorem run_G {pins : List (Addr × Obj)} {σ : L2.St} {H : Hp} {s : Shared} {Q : VK} {us : List Value} {vs : List V} (F : FnG X.prog X.w X.K X.mg X.base k f fd ps sp) (hr : Room k X.A) (gu : X.A.guards = some []) (hb : Binds X.K fd ps []) (hx : Passes CX0 X E)
    (I : Inv X pins σ H s) (r : Vals vs us) (h : sp vs H Q E) : wpAny (model X.prog X.w) X.A (call (.ref f) us) (EP X pins σ Q) X.xe s := by
  have lu : us.length = ps.length := by rw [← r.length]; exact F.len _ _ _ _ h
  have bi := hb s us I.kIn (by rw [List.append_nil]; exact lu)
  rw [List.append_nil] at bi
  refine wpAny_call (codeAny_mono (F.run X.A X.stack s H ⟨us, []⟩ us vs Q E hr gu I.env0 bi r h) fun out s2 hq => ?_)
  cases out with
  | error z => exact hx pins σ H s z s2 I hq
  | ok fl =>
    cases fl with
    | ret u => exact I.after hq
    | next => exact hq.elim
    | brk => exact hq.elim
    | cont => exact hq.elim
theorem pe_callG (F : FnG X.prog X.w X.K X.mg X.base k f fd ps sp) (hr : Room k X.A) (gu : X.A.guards = some []) (hg : Gl X x) (hm : X.mg x = some (.ref f)) (hk : PySem.W.keepIn X.K (.ref f) = true) (hb : Binds X.K fd ps []) (hx : Passes CX0 X E)
    (ha : PA X (e :: es) t) (hdb : (x == ("__debug__" : Str)) = false := by decide) (he : starEach (e :: es) X.env = (false, eval e X.env) :: starEach es X.env := by rfl) (hpl : (backTo pos (starEach es X.env)).any (·.1) = false := by rfl) :
    PE X (.Call (.Name x p) (e :: es) [] pos) (fun σ H Q => t σ H fun vs H1 => sp vs H1 Q E) := by
  refine ⟨fun pins s σ H Q I h => wpAny_Call_Name_kw (ld_glob I hg hm ?_ hdb)⟩
  exact PySem.W.callWith_K (h₀ := X.base) I.ok.mod.kin hk (thn (ha.run pos pins s σ H _ I h) fun us s1 ⟨vs, H1, I1, r, q⟩ => ⟨I1.kIn, run_G F hr gu hb hx I1 r q⟩) he hpl
end
end L2G
namespace DL
open PySem L2 L2G
open PySem.W (Frag)
mutual
def D.wg : D → Nat
  | .non => 4
  | .bl _ => 5
  | .int _ => 1921
  | .str x => (reprText x).length
  | .lst xs => wgA xs + 2
  | .tup xs => wgA xs + 4
  | .dic => 2
  | .ins _ _ _ => 0
  | .exc _ _ _ => 0
def wgA : List D → Nat
  | [] => 0
  | d :: r => D.wg d + 2 + wgA r
end
mutual
def D.shw : D → Bool
  | .non => true
  | .bl _ => true
  | .int i => decide (i.natAbs.log2 < 1920)
  | .str _ => true
  | .lst xs => shwA xs
  | .tup xs => shwA xs
  | .dic => true
  | .ins _ _ _ => false
  | .exc _ _ _ => false
def shwA : List D → Bool
  | [] => true
  | d :: r => D.shw d && shwA r
end
theorem textFrom_up : ∀ (ts : List PySem.Str) (k : Nat) (acc : PySem.Str), (textFrom k acc ts).length ≤ acc.length + piled ts
  | [], _, acc => Nat.le_add_right _ _
  | t :: r, k, acc => by
    have ih := textFrom_up r (k + 1) (acc ++ (if k > 0 then ", " else "" : String) ++ t)
    have e : (acc ++ (if k > 0 then ", " else "" : String) ++ t).length = acc.length + (if k > 0 then 2 else 0) + t.length := by
      rw [strLen_append, strLen_append]
      split <;> rfl
    rw [e] at ih
    rw [piled_cons]
    show (textFrom (k + 1) _ r).length ≤ _
    have : (if k > 0 then 2 else 0 : Nat) ≤ 2 := by split <;> omega
    omega
theorem listText_up (ts : List PySem.Str) : (listText ts).length ≤ piled ts + 2 := by
  unfold listText
  rw [strLen_append]
  have := textFrom_up ts 0 "["
  have e1 : (("[" : String) : PySem.Str).length = 1 := rfl
  have e2 : (("]" : String) : PySem.Str).length = 1 := rfl
  rw [e1] at this
  rw [e2]
  omega
theorem tupleText_up (ts : List PySem.Str) : (tupleText ts).length ≤ piled ts + 4 := by
  unfold tupleText
  rw [strLen_append, strLen_append]
  have e1 : ((("(" : String) : PySem.Str)).length = 1 := rfl
  have e3 : (((if ts.length == 1 then ",)" else ")" : String) : PySem.Str)).length ≤ 2 := by split <;> decide
  rw [e1]
  cases ts with
  | nil => show 1 + 0 + _ ≤ _; omega
  | cons t r =>
    have := join_length_add (t :: r) (by simp)
    omega
structure CalG (P : Program) (w : World) (K : Frag) (mg : PySem.Str → Option Value) (base : Heap) (k : Nat) (x : PySem.Str) (hm : Bool) (sp : DSp) : Prop where
  ex : ∃ f fd ps, FnG P w K mg base k f fd ps (spD K hm sp) ∧ mg x = some (.ref f) ∧ PySem.W.keepIn K (.ref f) = true ∧ Binds K fd ps []
section
variable {X : Cx} {c : C} {k j : Nat} {x : PySem.Str} {sp : DSp} {p pos : Pos}
theorem pd_callG (hK : c.K = X.K) (F : CalG X.prog X.w X.K X.mg X.base k x false sp) (gu : X.A.guards = some []) (hr : Room j X.A) (hk : k ≤ j) {e : Expr} {es : List Expr} {t : DA} (ha : PA X (e :: es) (LA c t)) (hg : Gl X x := by rfl) (hdb : (x == ("__debug__" : PySem.Str)) = false := by decide) (he : starEach (e :: es) X.env = (false, eval e X.env) :: starEach es X.env := by rfl) (hpl : (backTo pos (starEach es X.env)).any (·.1) = false := by rfl) :
    PE X (.Call (.Name x p) (e :: es) [] pos) (LE c (dCall sp t)) := by
  obtain ⟨f, fd, ps, G, hm, kp, b⟩ := F.ex
  refine (pe_callG (E := E0) G (hr.mono hk) gu hg hm kp b pass0 ha hdb he hpl).weak fun σ H Q ⟨s, R, rp, q, fn⟩ => ⟨s, _, rp, q, fun ds k1 h1 vs H1 r1 a1 e1 => ?_⟩
  refine ⟨none, Ml c.M ++ s.X, 0, ds, vs, _, ⟨rfl, rfl⟩, ⟨fun a _ => by simp [Ml], r1.allHid, trivial, hK ▸ e1, r1.allTb⟩, h1, fun d k' hR v H' af er => ?_⟩
  have z := Rep.after (s := s.at k1) r1 ⟨af.sub, af.old, af.m, af.tb⟩
  exact fn d k1 hR v H' z.1 (a1.trans z.2) (hK ▸ er)
end
section
variable {P : Program} {w : World} {K : Frag} {mg : PySem.Str → Option Value} {base : Heap}
theorem okDG {x qual : PySem.Str} {st : Stmt} {f : Addr} {fd : FuncData} {N ps : List PySem.Str} {k : Nat} {hm : Bool} {sp : DSp} (F : Fun K x qual st f fd) (Sc : FnScope N ps (defScope st)) (ow : List Nat)
    (len : ∀ ds k R, sp ds k R → ds.length + (match hm with | true => 1 | false => 0) = ps.length)
    (body : ∃ t : DS, (∀ (cdv : Value) (A : Around) (outer : List Env) (s : Shared) (H : Hp) (E : XK) (M : Option Mc) (X0 : List Addr), (A.deeper (PyProof.Rows.envOfC qual (defScope st) s.heap.objs.size f cdv)).guards = some [] → Room k (A.deeper (PyProof.Rows.envOfC qual (defScope st) s.heap.objs.size f cdv)) →
        PSs (cxOf CX0 P w K mg base N qual (defScope st) f cdv A outer s H E).nox (defBody st) (LS ⟨K, M, X0, H, ow⟩ t)) ∧
      ∀ X ds k R, sp ds k R → t { nx := fun s => R .non s.k, rt := R } ⟨X, init hm N.length ds, k⟩) :
    FnG P w K mg base (k + 1) f fd ps (spD K hm sp) := by
  obtain ⟨t, hb, hr⟩ := body
  have lens : ∀ vs H Q E, spD K hm sp vs H Q E → vs.length = ps.length := fun vs H Q E ⟨M, X0, k, ds, ws, R, h1, a, h2, h3⟩ => by
    have q := len ds k R h2
    have l := a.args.len
    cases hm with
    | false =>
      obtain ⟨_, rfl⟩ := h1
      rw [l]
      exact q
    | true =>
      obtain ⟨m, _, rfl⟩ := h1
      rw [List.length_cons, l]
      exact q
  refine okG F Sc lens fun cdv A outer s H vs Q E room gu h => ?_
  have hl := lens _ _ _ _ h
  obtain ⟨M, X0, k', ds, ws, R, h1, a, h2, h3⟩ := h
  have hpl : ps.length ≤ N.length := by have := congrArg List.length Sc.pre; rw [List.length_take] at this; omega
  refine ⟨LS ⟨K, M, X0, H, ow⟩ t, hb cdv A outer s H E M X0 gu room, ⟨X0, init hm N.length ds, k'⟩, _, init_rep (c := ⟨K, M, X0, H, ow⟩) rfl h1 a (by omega), hr X0 ds k' R h2, ?_⟩
  have fin : ∀ d k v H', Fin ⟨K, M, X0, H, ow⟩ H' k → Rl K (wo H' (Ml M ++ X0)) v d → R d k → Q v H' := fun d k v H' fi e r => h3 d k r v H' ⟨fi.sub, fun b hb => fi.old b hb (a.xm b hb) (a.xs b hb), fi.m, fi.tb⟩ e
  exact ⟨fun s' σ' H' r _ q => fin .non s'.k .non H' r.fin .non q, fun _ _ _ _ _ q => q, fun _ _ _ _ _ q => q, fun d k v H' fi e r => fin d k v H' fi e r⟩
end
end DL
namespace L2G
open PySem PySem.Spec PyProof.Rows L2 HT
end L2G
namespace DL
open PySem L2 L2G
open PySem.W (Frag)
end DL
namespace BW
open PySem L2 DL
theorem mem_fall {r : List Int} {i : Nat} (hi : i < r.length) : ((i : Int) + 1) ∈ fall r ↔ r.getD i 0 < 0 := by
  unfold fall
  rw [List.mem_map]
  constructor
  · rintro ⟨j, hj, e⟩
    obtain ⟨_, h2⟩ := List.mem_filter.mp hj
    have : j = i := by omega
    rw [← this]
    exact of_decide_eq_true h2
  · intro h
    exact ⟨i, List.mem_filter.mpr ⟨List.mem_range.mpr hi, decide_eq_true h⟩, rfl⟩
theorem LN.more {T : Mat} (ht : Tab T) {w : List Int} (hw : Wd T.length w) {k : Nat} (h : LN T w k) {i : Nat} (hi : i < T.length) :
    if ((i : Int) + 1) ∈ fall (row T w) then 1 ≤ k ∧ LN T (w ++ [(i : Int) + 1]) (k - 1) else LN T (w ++ [(i : Int) + 1]) (k + 1) := by
  have em : (w ++ [(i : Int) + 1]).map ix = w.map ix ++ [i] := by rw [List.map_append, List.map_cons, List.map_nil, ix_succ]
  have hr : i < (row T w).length := by rw [row_length]; exact hi
  by_cases c : ((i : Int) + 1) ∈ fall (row T w)
  · rw [if_pos c]
    obtain ⟨j, e, hj, _, _⟩ := h.step ht hw c
    exact ⟨by omega, by rw [e]; exact hj⟩
  · rw [if_neg c]
    have nz := row_nz ht hw hi
    have np : 0 < TT.hv T.length (wt T) (w.map ix) i := by
      rw [← row_hv hw hi]
      have := (not_congr (mem_fall hr)).mp c
      omega
    show TT.Ln T.length (wt T) ((w ++ [(i : Int) + 1]).map ix) (k + 1)
    rw [em]
    exact TT.Ln.up (car_of ht) hi (lets_of hw) h np
theorem len60 {T : Mat} (ht : Tab T) {w : List Int} (hw : Wd T.length w) {k : Nat} (h : LN T w k) (hk : k ≤ 60) : (wd T 60 (row T w)).1.length = k := (wd_len ht k hw h hk).1
theorem inV_mem {a : Int} : ∀ {ns : List Int}, inV (D.int a).v ((ns.map D.int).map D.v) = decide (a ∈ ns)
  | [] => rfl
  | b :: r => by
    have ih := inV_mem (a := a) (ns := r)
    unfold inV at ih ⊢
    rw [List.map_cons, List.map_cons, List.any_cons, ih]
    show ((b == a) || _) = _
    by_cases e : a = b
    · subst e; simp
    · have : (b == a) = false := by simpa using fun z => e z.symm
      rw [this]
      simp [e]
theorem flat_ints : ∀ ns : List Int, (ns.map D.int).all D.flat = true
  | [] => rfl
  | _ :: r => flat_ints r
end BW
namespace BW
open PySem L2 DL
def Tn1 (T : Mat) (u v : List Int) : Prop := ∃ (p s : List Int) (i j : Nat), i < T.length ∧ j < T.length ∧ i ≠ j ∧ 0 < at2 T i j ∧ u = p ++ alt ((i : Int) + 1) ((j : Int) + 1) (at2 T i j).toNat ++ s ∧ v = p ++ alt ((j : Int) + 1) ((i : Int) + 1) (at2 T i j).toNat ++ s
inductive Tn (T : Mat) : List Int → List Int → Prop
  | refl {u : List Int} : Tn T u u
  | step {u v w : List Int} : Tn1 T u v → Tn T v w → Tn T u w
theorem Tn.trans {T : Mat} {u v w : List Int} (h : Tn T u v) (g : Tn T v w) : Tn T u w := by
  induction h with
  | refl => exact g
  | step a _ ih => exact .step a (ih g)
theorem Tn1.symm {T : Mat} (ht : Tab T) {u v : List Int} (h : Tn1 T u v) : Tn1 T v u := by
  obtain ⟨p, s, i, j, hi, hj, ne, b, e1, e2⟩ := h
  have sy := ht.sy i j hi hj
  exact ⟨p, s, j, i, hj, hi, fun z => ne z.symm, by rw [← sy]; exact b, by rw [← sy]; exact e2, by rw [← sy]; exact e1⟩
theorem Tn.symm {T : Mat} (ht : Tab T) {u v : List Int} (h : Tn T u v) : Tn T v u := by
  induction h with
  | refl => exact .refl
  | step a _ ih => exact ih.trans (.step (a.symm ht) .refl)
theorem Tn1.app {T : Mat} {u v : List Int} (h : Tn1 T u v) (z : List Int) : Tn1 T (u ++ z) (v ++ z) := by
  obtain ⟨p, s, i, j, hi, hj, ne, b, e1, e2⟩ := h
  exact ⟨p, s ++ z, i, j, hi, hj, ne, b, by rw [e1, List.append_assoc], by rw [e2, List.append_assoc]⟩
theorem Tn.app {T : Mat} {u v : List Int} (h : Tn T u v) (z : List Int) : Tn T (u ++ z) (v ++ z) := by
  induction h with
  | refl => exact .refl
  | step a _ ih => exact .step (a.app z) ih
theorem alt_rev {T : Mat} (ht : Tab T) {i j : Nat} (hi : i < T.length) (hj : j < T.length) (ne : i ≠ j) (h : 0 < at2 T i j) :
    ((alt ((i : Int) + 1) ((j : Int) + 1) (at2 T i j).toNat).reverse = alt ((i : Int) + 1) ((j : Int) + 1) (at2 T i j).toNat ∧ (alt ((j : Int) + 1) ((i : Int) + 1) (at2 T i j).toNat).reverse = alt ((j : Int) + 1) ((i : Int) + 1) (at2 T i j).toNat) ∨
    ((alt ((i : Int) + 1) ((j : Int) + 1) (at2 T i j).toNat).reverse = alt ((j : Int) + 1) ((i : Int) + 1) (at2 T i j).toNat ∧ (alt ((j : Int) + 1) ((i : Int) + 1) (at2 T i j).toNat).reverse = alt ((i : Int) + 1) ((j : Int) + 1) (at2 T i j).toNat) := by
  rcases ht.of i j hi hj ne with e | e | e | e | e
  · rw [e]; exact .inr ⟨rfl, rfl⟩
  · rw [e]; exact .inl ⟨rfl, rfl⟩
  · rw [e]; exact .inr ⟨rfl, rfl⟩
  · rw [e]; exact .inr ⟨rfl, rfl⟩
  · rw [e] at h; exact absurd h (by decide)
theorem LN.cong {T : Mat} {u v : List Int} (hu : Wd T.length u) (hv : Wd T.length v) {k : Nat} (h : LN T u k) (e : row T u = row T v) : LN T v k := TT.Ln.cong h ((row_eq_iff hu hv).mp e)
theorem LN.uniq {T : Mat} {u : List Int} {j k : Nat} (a : LN T u j) (b : LN T u k) : j = k := TT.Ln.uniq a b
abbrev Sh (T : Mat) (w : List Int) : Prop := LN T w w.length
theorem row_app {T : Mat} {u v z : List Int} (e : row T u = row T v) : row T (u ++ z) = row T (v ++ z) := by
  unfold row at e ⊢
  rw [List.foldl_append, List.foldl_append, e]
theorem row_undo {T : Mat} (ht : Tab T) {w : List Int} {i : Nat} (hi : i < T.length) : row T (w ++ [(i : Int) + 1] ++ [(i : Int) + 1]) = row T w := by
  have e1 : wt T i i = -2 := by unfold wt; rw [if_pos rfl]
  refine ext_getD (by rw [row_length, row_length]) fun c hc => ?_
  rw [row_length] at hc
  rw [row_snoc, row_snoc, ix_succ, press_get hc, press_get hc, press_get hi, e1]
  rw [show (row T w).getD i 0 + -2 * (row T w).getD i 0 = -((row T w).getD i 0) by omega, Int.mul_neg]
  omega
theorem row_cancel {T : Mat} (ht : Tab T) {u v : List Int} {i : Nat} (hi : i < T.length) (e : row T (u ++ [(i : Int) + 1]) = row T (v ++ [(i : Int) + 1])) : row T u = row T v := by
  have := row_app (z := [(i : Int) + 1]) e
  rw [row_undo ht hi, row_undo ht hi] at this
  exact this
theorem Sh.last {T : Mat} (ht : Tab T) {w : List Int} {i : Nat} (hi : i < T.length) (hw : Wd T.length w) (h : Sh T (w ++ [(i : Int) + 1])) : (row T (w ++ [(i : Int) + 1])).getD i 0 < 0 ∧ Sh T w := by
  obtain ⟨k, hk, hl⟩ := LN.has hw
  have m := LN.more ht hw hk hi
  have el : (w ++ [(i : Int) + 1]).length = w.length + 1 := by rw [List.length_append]; rfl
  have e1 : wt T i i = -2 := by unfold wt; rw [if_pos rfl]
  by_cases c : ((i : Int) + 1) ∈ fall (row T w)
  · rw [if_pos c] at m
    have := h.uniq m.2
    omega
  · rw [if_neg c] at m
    have := h.uniq m
    have ek : k = w.length := by omega
    have nz := row_nz ht hw hi
    have nn := (not_congr (mem_fall (r := row T w) (i := i) (by rw [row_length]; exact hi))).mp c
    refine ⟨?_, by rw [ek] at hk; exact hk⟩
    rw [row_snoc, ix_succ, press_get hi, e1]
    omega
theorem snoc_cases {T : Mat} {w : List Int} (hw : Wd T.length w) : w = [] ∨ ∃ (v : List Int) (i : Nat), i < T.length ∧ Wd T.length v ∧ w = v ++ [(i : Int) + 1] := by
  rcases List.eq_nil_or_concat w with e | ⟨v, a, e⟩
  · exact .inl e
  · rw [List.concat_eq_append] at e
    subst e
    have ha := hw a (by simp)
    refine .inr ⟨v, (a - 1).toNat, by omega, fun z hz => hw z (by simp [hz]), ?_⟩
    rw [show ((a - 1).toNat : Int) + 1 = a by omega]
theorem alt_pos {T : Mat} (ht : Tab T) {i j : Nat} (hi : i < T.length) (hj : j < T.length) (ne : i ≠ j) (h : 0 < at2 T i j) : ∃ m, (at2 T i j).toNat = m + 1 := ⟨(at2 T i j).toNat - 1, by omega⟩
end BW
namespace BW
open PySem L2 DL
def Ou1 (u v : List Int) : Prop := ∃ (p s : List Int) (a : Int), u = p ++ [a, a] ++ s ∧ v = p ++ s
inductive Led (T : Mat) : List Int → List Int → Prop
  | refl {u : List Int} : Led T u u
  | turn {u v w : List Int} : Tn1 T u v → Led T v w → Led T u w
  | out {u v w : List Int} : Ou1 u v → Led T v w → Led T u w
theorem Led.trans {T : Mat} {u v w : List Int} (h : Led T u v) (g : Led T v w) : Led T u w := by
  induction h with
  | refl => exact g
  | turn a _ ih => exact .turn a (ih g)
  | out a _ ih => exact .out a (ih g)
theorem Tn.led {T : Mat} {u v : List Int} (h : Tn T u v) : Led T u v := by
  induction h with
  | refl => exact .refl
  | step a _ ih => exact .turn a ih
theorem Led.app {T : Mat} {u v : List Int} (h : Led T u v) (z : List Int) : Led T (u ++ z) (v ++ z) := by
  induction h with
  | refl => exact .refl
  | turn a _ ih => exact .turn (a.app z) ih
  | out a _ ih =>
    obtain ⟨p, s, a, e1, e2⟩ := a
    exact .out ⟨p, s ++ z, a, by rw [e1, List.append_assoc], by rw [e2, List.append_assoc]⟩ ih
end BW
namespace BW
open PySem L2 DL
theorem shw_ints : ∀ {ns : List Int}, (∀ a ∈ ns, a.natAbs.log2 < 1920) → plainA (ns.map D.int) = true ∧ shwA (ns.map D.int) = true ∧ wgA (ns.map D.int) = 1923 * ns.length ∧ PyData.depthAll (pyA (ns.map D.int)) = 0
  | [], _ => ⟨rfl, rfl, rfl, rfl⟩
  | a :: r, h => by
    obtain ⟨h1, h2, h3, h4⟩ := shw_ints (ns := r) fun z hz => h z (List.mem_cons_of_mem _ hz)
    refine ⟨h1, ?_, ?_, ?_⟩
    · show (decide (a.natAbs.log2 < 1920) && shwA (r.map D.int)) = true
      rw [decide_eq_true (h a List.mem_cons_self), h2]; rfl
    · show 1921 + 2 + wgA (r.map D.int) = _
      rw [h3, List.length_cons]
      omega
    · show max 0 (PyData.depthAll (pyA (r.map D.int))) = 0
      rw [h4]; rfl
theorem small_log {a : Int} (h : -(2 ^ 300) < a ∧ a < 2 ^ 300) : a.natAbs.log2 < 1920 := by
  by_cases z : a.natAbs = 0
  · rw [z]; decide
  · have := (Nat.log2_lt (n := a.natAbs) (k := 300) z).mpr (by omega)
    omega
end BW
namespace BW
open PySem L2 DL
def lw (T : Mat) (w : List Int) : List Int := (wd T 60 (row T w.reverse)).1
def shown (T : Mat) (w : List Int) : List D := [tI (row T w), .int (wd T 60 (row T w)).1.length, tI (fall (row T w.reverse)), tI (fall (row T w)), tI (lw T w)]
theorem LN.par {T : Mat} (ht : Tab T) : ∀ (n : Nat) {w : List Int} {k : Nat}, w.length = n → Wd T.length w → LN T w k → k % 2 = n % 2
  | 0, w, k, hl, hw, h => by
    obtain ⟨j, hj, hj2⟩ := LN.has hw
    have := LN.uniq h hj
    omega
  | n + 1, w, k, hl, hw, h => by
    rcases snoc_cases hw with rfl | ⟨v, i, hi, wv, rfl⟩
    · cases hl
    · rw [List.length_append, List.length_singleton] at hl
      obtain ⟨j, hj, hj2⟩ := LN.has wv
      have ih := LN.par ht n (by omega : v.length = n) wv hj
      have m := LN.more ht wv hj hi
      by_cases c : ((i : Int) + 1) ∈ fall (row T v)
      · rw [if_pos c] at m
        have := LN.uniq h m.2
        omega
      · rw [if_neg c] at m
        have := LN.uniq h m
        omega
theorem mv_row {T : Mat} (ht : Tab T) {w v : List Int} {e : Deed} (hw : Wd T.length w) (he : e.fits T.length w.length) (h : mv T w e = some v) : row T v = row T w := by
  cases e with
  | inn k a =>
    have h : (w.take k ++ [a, a]) ++ w.drop k = v := Option.some.inj h
    subst h
    obtain ⟨i, rfl⟩ : ∃ i : Nat, a = (i : Int) + 1 := ⟨(a - 1).toNat, by have := he.2; omega⟩
    have hi : i < T.length := by have := he.2; omega
    have e1 := row_app (z := w.drop k) (row_undo ht (w := w.take k) hi)
    rw [List.take_append_drop] at e1
    rw [← e1, List.append_assoc (w.take k) [(i : Int) + 1] [(i : Int) + 1]]
    rfl
  | out k =>
    rw [mv_out] at h
    split at h
    · rename_i c
      cases h
      obtain ⟨c1, c2⟩ := c
      have hk : k < w.length := by omega
      have ma := hw (w.getD k 0) (List.mem_of_getElem? (getD_get (d := 0) hk))
      obtain ⟨i, ei⟩ : ∃ i : Nat, w.getD k 0 = (i : Int) + 1 := ⟨(w.getD k 0 - 1).toNat, by omega⟩
      have hi : i < T.length := by omega
      have e1 := row_app (z := w.drop (k + 2)) (row_undo ht (w := w.take k) hi)
      rw [← e1]
      congr 1
      have d1 : w.drop k = w.getD k 0 :: w.drop (k + 1) := by
        rw [List.drop_eq_getElem_cons hk]
        congr 1
        rw [List.getD_eq_getElem?_getD, List.getElem?_eq_getElem hk]; rfl
      have d2 : w.drop (k + 1) = w.getD (k + 1) 0 :: w.drop (k + 2) := by
        rw [List.drop_eq_getElem_cons c1]
        congr 1
        rw [List.getD_eq_getElem?_getD, List.getElem?_eq_getElem c1]; rfl
      rw [List.append_assoc, List.append_assoc]
      conv => rhs; rw [← List.take_append_drop k w, d1, d2, ← c2, ei]
      rfl
    · cases h
  | turn k =>
    rw [mv_turn] at h
    split at h
    · rename_i c
      split at h
      · rename_i c2
        cases h
        obtain ⟨c1, cn⟩ := c
        obtain ⟨c3, c4⟩ := c2
        have hk : k < w.length := by omega
        have ma := hw (w.getD k 0) (List.mem_of_getElem? (getD_get (d := 0) hk))
        have mb := hw (w.getD (k + 1) 0) (List.mem_of_getElem? (getD_get (d := 0) c1))
        obtain ⟨i, ei⟩ : ∃ i : Nat, w.getD k 0 = (i : Int) + 1 := ⟨(w.getD k 0 - 1).toNat, by omega⟩
        obtain ⟨j, ej⟩ : ∃ j : Nat, w.getD (k + 1) 0 = (j : Int) + 1 := ⟨(w.getD (k + 1) 0 - 1).toNat, by omega⟩
        have hi : i < T.length := by omega
        have hj : j < T.length := by omega
        rw [ei, ej, ix_succ, ix_succ] at c3 c4 ⊢
        have ne : i ≠ j := fun z => cn (by rw [ei, ej, z])
        have hp : 0 < at2 T i j := by omega
        have e1 := row_app (z := w.drop (k + (at2 T i j).toNat)) (row_alt ht (w := w.take k) (fun z hz => hw z (List.mem_of_mem_take hz)) hi hj ne hp)
        rw [← e1]
        congr 1
        rw [← c4, List.append_assoc]
        conv => rhs; rw [← List.take_append_drop k w]
        congr 1
        rw [← List.drop_drop, List.take_append_drop]
      · cases h
    · cases h
end BW
set_option maxHeartbeats 1000000
namespace BW
open PySem L2 DL
def Ws (T : Mat) : List Int → List Deed → List Int → Prop
  | w, [], v => v = w
  | w, e :: r, v => ∃ k u, e = .turn k ∧ mv T w (.turn k) = some u ∧ Ws T u r v
theorem Ws.app {T : Mat} : ∀ {es fs : List Deed} {w u v : List Int}, Ws T w es u → Ws T u fs v → Ws T w (es ++ fs) v
  | [], fs, w, u, v, h, g => by
    have h : u = w := h
    subst h
    exact g
  | e :: r, fs, w, u, v, ⟨k, x, a, b, c⟩, g => ⟨k, x, a, b, Ws.app c g⟩
theorem mv_suf {T : Mat} {w u z : List Int} {k : Nat} (h : mv T w (.turn k) = some u) : mv T (w ++ z) (.turn k) = some (u ++ z) := by
  rw [mv_turn] at h ⊢
  split at h
  case isFalse => cases h
  rename_i c
  have g0 : (w ++ z).getD k 0 = w.getD k 0 := by rw [List.getD_eq_getElem?_getD, List.getD_eq_getElem?_getD, List.getElem?_append_left (by omega)]
  have g1 : (w ++ z).getD (k + 1) 0 = w.getD (k + 1) 0 := by rw [List.getD_eq_getElem?_getD, List.getD_eq_getElem?_getD, List.getElem?_append_left (by omega)]
  rw [g0, g1, if_pos ⟨by rw [List.length_append]; omega, c.2⟩]
  split at h
  case isFalse => cases h
  rename_i c2
  cases h
  have l := congrArg List.length c2.2
  rw [alt_length, List.length_take, List.length_drop] at l
  have d1 : (w ++ z).drop k = w.drop k ++ z := List.drop_append_of_le_length (by omega)
  have t1 : ((w ++ z).drop k).take (at2 T (ix (w.getD k 0)) (ix (w.getD (k + 1) 0))).toNat = (w.drop k).take (at2 T (ix (w.getD k 0)) (ix (w.getD (k + 1) 0))).toNat := by
    rw [d1, List.take_append_of_le_length (by rw [List.length_drop]; omega)]
  rw [t1, if_pos c2, List.take_append_of_le_length (by omega), List.drop_append_of_le_length (by omega), List.append_assoc (_ ++ _) _ z]
theorem Ws.suf {T : Mat} {z : List Int} : ∀ {es : List Deed} {w v : List Int}, Ws T w es v → Ws T (w ++ z) es (v ++ z)
  | [], w, v, h => by
    have h : v = w := h
    subst h
    rfl
  | e :: r, w, v, ⟨k, u, a, b, c⟩ => ⟨k, u ++ z, a, mv_suf b, Ws.suf c⟩
theorem Ws.all {T : Mat} (ht : Tab T) : ∀ {es : List Deed} {w v : List Int}, Ws T w es v → Wd T.length w → Wd T.length v ∧ v.length = w.length ∧ row T v = row T w
  | [], w, v, h, hw => by
    have h : v = w := h
    subst h
    exact ⟨hw, rfl, rfl⟩
  | e :: r, w, v, ⟨k, u, a, b, c⟩, hw => by
    have hu : Wd T.length u := mv_wd (e := .turn k) hw trivial b
    obtain ⟨h1, h2, h3⟩ := Ws.all ht c hu
    exact ⟨h1, h2.trans (mv_turn_len0 b), h3.trans (mv_row ht (e := .turn k) hw trivial b)⟩
where
  mv_turn_len0 {T : Mat} {w v : List Int} {k : Nat} (h : mv T w (.turn k) = some v) : v.length = w.length := by
    rw [mv_turn] at h
    split at h
    · rename_i c
      split at h
      · rename_i c2
        cases h
        have l := congrArg List.length c2.2
        rw [alt_length, List.length_take, List.length_drop] at l
        rw [List.length_append, List.length_append, alt_length, List.length_take, List.length_drop]
        omega
      · cases h
    · cases h
abbrev blS (f : List Int → Int → List Int × List Deed) (L : Nat) (a b : Int) (s0 : List Int × List Deed) : Nat → List Int × List Deed
  | 0 => s0
  | p + 1 => ((f ((blS f L a b s0 p).1.take (L - p)) (if p % 2 = 0 then a else b)).1 ++ (blS f L a b s0 p).1.drop (L - p), (blS f L a b s0 p).2 ++ (f ((blS f L a b s0 p).1.take (L - p)) (if p % 2 = 0 then a else b)).2)
def bl (T : Mat) : Nat → List Int → Int → List Int × List Deed
  | 0, w, _ => (w, [])
  | n + 1, w, a => if w.getLastD 0 = a then (w, []) else
    ((mv T (blS (bl T n) w.length (w.getLastD 0) a (w, []) (at2 T (ix (w.getLastD 0)) (ix a)).toNat).1 (.turn (w.length - (at2 T (ix (w.getLastD 0)) (ix a)).toNat))).getD (blS (bl T n) w.length (w.getLastD 0) a (w, []) (at2 T (ix (w.getLastD 0)) (ix a)).toNat).1,
      (blS (bl T n) w.length (w.getLastD 0) a (w, []) (at2 T (ix (w.getLastD 0)) (ix a)).toNat).2 ++ [.turn (w.length - (at2 T (ix (w.getLastD 0)) (ix a)).toNat)])
def sz (w : List Int) (a : Int) : Nat := 2 * w.length + if w.getLastD 0 = a then 0 else 1
theorem bl_same {T : Mat} {n : Nat} {w : List Int} {a : Int} (h : w.getLastD 0 = a) : bl T n w a = (w, []) := by
  cases n with
  | zero => rfl
  | succ n =>
    unfold bl
    rw [if_pos h]
theorem lastD_snoc (v : List Int) (a : Int) : (v ++ [a]).getLastD 0 = a := by
  rw [List.getLastD_eq_getLast?, List.getLast?_append]; rfl
structure Bq (T : Mat) (w : List Int) (j : Nat) : Prop where
  hj : j < T.length
  hw : Wd T.length w
  sh : Sh T w
  lo : (row T w).getD j 0 < 0
structure Br (T : Mat) (w : List Int) (j : Nat) (r : List Int × List Deed) : Prop where
  ws : Ws T w r.2 r.1
  last : ∃ v, r.1 = v ++ [(j : Int) + 1]
  few2 : 2 * r.2.length ≤ 2 ^ w.length
theorem Br.few {T : Mat} {w : List Int} {j : Nat} {r : List Int × List Deed} (h : Br T w j r) : r.2.length < 2 ^ w.length := by
  have := h.few2
  have := Nat.two_pow_pos w.length
  omega
theorem alt_snoc (a b : Int) (p : Nat) : alt a b (p + 1) = alt a b p ++ [if p % 2 = 0 then a else b] := by
  unfold alt
  rw [List.range_succ, List.map_append]
  rfl
theorem Bq.ne {T : Mat} {w : List Int} {j : Nat} (h : Bq T w j) : w ≠ [] := fun z => by
  subst z
  have := h.lo
  have e : row T [] = one T := rfl
  rw [e] at this
  unfold one at this
  rw [List.getD_eq_getElem?_getD, List.getElem?_replicate, if_pos h.hj] at this
  exact absurd this (by decide)
theorem Bq.own {T : Mat} (ht : Tab T) {w : List Int} {j : Nat} (h : Bq T w j) : ∃ (v : List Int) (i : Nat), i < T.length ∧ w = v ++ [(i : Int) + 1] ∧ w.getLastD 0 = (i : Int) + 1 ∧ (row T w).getD i 0 < 0 := by
  rcases snoc_cases h.hw with e | ⟨v, i, hi, hv, e⟩
  · exact absurd e h.ne
  · subst e
    exact ⟨v, i, hi, rfl, lastD_snoc v _, (Sh.last ht hi hv h.sh).1⟩
theorem LN.far {T : Mat} (ht : Tab T) : ∀ {z u : List Int} {k l : Nat}, Wd T.length u → Wd T.length z → LN T u k → LN T (u ++ z) l → k ≤ l + z.length
  | [], u, k, l, hu, hz, h, g => by
    rw [List.append_nil] at g
    have := h.uniq g
    show k ≤ l + 0
    omega
  | a :: z, u, k, l, hu, hz, h, g => by
    have ha := hz a List.mem_cons_self
    obtain ⟨i, rfl⟩ : ∃ i : Nat, a = (i : Int) + 1 := ⟨(a - 1).toNat, by omega⟩
    have hi : i < T.length := by omega
    have hu2 : Wd T.length (u ++ [(i : Int) + 1]) := wd_app hu (wd_one hi)
    have hz2 : Wd T.length z := fun b hb => hz b (List.mem_cons_of_mem _ hb)
    have e : u ++ (((i : Int) + 1) :: z) = (u ++ [(i : Int) + 1]) ++ z := by rw [List.append_assoc]; rfl
    rw [e] at g
    have m := LN.more ht hu h hi
    rw [List.length_cons]
    by_cases c : ((i : Int) + 1) ∈ fall (row T u)
    · rw [if_pos c] at m
      have := LN.far ht hu2 hz2 m.2 g
      have := m.1
      omega
    · rw [if_neg c] at m
      have := LN.far ht hu2 hz2 m g
      omega
theorem alt_cut (a b : Int) {p m : Nat} (h : p ≤ m) : alt a b m = alt a b p ++ (alt a b m).drop p := by
  have : (alt a b m).take p = alt a b p := by
    unfold alt
    rw [← List.map_take, List.take_range, Nat.min_eq_left h]
  rw [← this, List.take_append_drop]
theorem two_at {T : Mat} (ht : Tab T) {w : List Int} {i j : Nat} (hw : Wd T.length w) (hs : Sh T w) (hi : i < T.length) (hj : j < T.length) (ne : i ≠ j) (ni : (row T w).getD i 0 < 0) (nj : (row T w).getD j 0 < 0) :
    0 < at2 T i j ∧ (at2 T i j).toNat ≤ w.length ∧ ∀ p, p ≤ (at2 T i j).toNat → LN T (w ++ alt ((i : Int) + 1) ((j : Int) + 1) p) (w.length - p) := by
  obtain ⟨h0, hd⟩ := dn_two ht hw hs hi hj ne ni nj
  obtain ⟨l, e, hl⟩ := hd.end_
  refine ⟨h0, by omega, fun p hp => ?_⟩
  have wa : ∀ q, Wd T.length (alt ((i : Int) + 1) ((j : Int) + 1) q) := fun q => alt_wd ⟨by omega, by omega⟩ ⟨by omega, by omega⟩ q
  obtain ⟨kp, hkp, _⟩ := LN.has (wd_app hw (wa p))
  have f1 := LN.far ht hw (wa p) hs hkp
  rw [alt_length] at f1
  rw [alt_cut _ _ hp, ← List.append_assoc] at hl
  have f2 := LN.far ht (wd_app hw (wa p)) (fun b hb => wa _ b (List.mem_of_mem_drop hb)) hkp hl
  rw [List.length_drop, alt_length] at f2
  have : kp = w.length - p := by omega
  rw [this] at hkp
  exact hkp
theorem fall_of_less {T : Mat} (ht : Tab T) {u : List Int} {k i : Nat} (hu : Wd T.length u) (hi : i < T.length) (h : LN T u (k + 1)) (g : LN T (u ++ [(i : Int) + 1]) k) : (row T u).getD i 0 < 0 := by
  have m := LN.more ht hu h hi
  by_cases c : ((i : Int) + 1) ∈ fall (row T u)
  · exact (mem_fall (by rw [row_length]; exact hi)).mp c
  · rw [if_neg c] at m
    have := m.uniq g
    omega
structure Ip (T : Mat) (w : List Int) (i j p : Nat) (s : List Int × List Deed) : Prop where
  ws : Ws T w s.2 s.1
  ex : ∃ h, s.1 = h ++ (alt ((i : Int) + 1) ((j : Int) + 1) p).reverse ∧ h.length = w.length - p ∧ Wd T.length h ∧ row T h = row T (w ++ alt ((i : Int) + 1) ((j : Int) + 1) p)
  few : (p = 0 ∧ s.2.length = 0) ∨ (1 ≤ p ∧ 2 * s.2.length + 2 ^ (w.length - p + 1) ≤ 2 ^ w.length)
def xp (i j p : Nat) : Nat := if p % 2 = 0 then i else j
theorem xp_eq (i j p : Nat) : (if p % 2 = 0 then ((i : Int) + 1) else ((j : Int) + 1)) = ((xp i j p : Nat) : Int) + 1 := by
  unfold xp
  by_cases c : p % 2 = 0
  · rw [if_pos c, if_pos c]
  · rw [if_neg c, if_neg c]
section
variable {T : Mat} {w : List Int} {i j p : Nat} {s : List Int × List Deed}
theorem Ip.head (ht : Tab T) (hw : Wd T.length w) (hi : i < T.length) (hj : j < T.length) (I : Ip T w i j p s) (hp : p + 1 ≤ w.length) (l0 : LN T (w ++ alt ((i : Int) + 1) ((j : Int) + 1) p) (w.length - p)) (l1 : LN T (w ++ alt ((i : Int) + 1) ((j : Int) + 1) (p + 1)) (w.length - (p + 1))) :
    Bq T (s.1.take (w.length - p)) (xp i j p) ∧ (s.1.take (w.length - p)).length = w.length - p := by
  obtain ⟨h, e, lh, wh, rh⟩ := I.ex
  have et : s.1.take (w.length - p) = h := by rw [e, ← lh, List.take_left']; rfl
  rw [et]
  have wa : Wd T.length (alt ((i : Int) + 1) ((j : Int) + 1) p) := alt_wd ⟨by omega, by omega⟩ ⟨by omega, by omega⟩ p
  have hx : xp i j p < T.length := by unfold xp; split <;> assumption
  have sh : Sh T h := by
    have := l0.cong (wd_app hw wa) wh rh.symm
    rw [← lh] at this
    exact this
  refine ⟨⟨hx, wh, sh, ?_⟩, lh⟩
  rw [rh]
  have e1 : w ++ alt ((i : Int) + 1) ((j : Int) + 1) (p + 1) = (w ++ alt ((i : Int) + 1) ((j : Int) + 1) p) ++ [((xp i j p : Nat) : Int) + 1] := by rw [alt_snoc, xp_eq, List.append_assoc]
  rw [e1] at l1
  have e2 : w.length - p = (w.length - (p + 1)) + 1 := by omega
  rw [e2] at l0
  exact fall_of_less ht (wd_app hw wa) hx l0 l1
theorem Ip.next (ht : Tab T) (hw : Wd T.length w) (hi : i < T.length) (hj : j < T.length) (I : Ip T w i j p s) (hp : p + 1 ≤ w.length) {r : List Int × List Deed} (hr : Br T (s.1.take (w.length - p)) (xp i j p) r) (h0 : p = 0 → r.2 = []) :
    Ip T w i j (p + 1) (r.1 ++ s.1.drop (w.length - p), s.2 ++ r.2) := by
  obtain ⟨h, e, lh, wh, rh⟩ := I.ex
  have et : s.1.take (w.length - p) = h := by rw [e, ← lh, List.take_left']; rfl
  have ed : s.1.drop (w.length - p) = (alt ((i : Int) + 1) ((j : Int) + 1) p).reverse := by rw [e, ← lh, List.drop_left']; rfl
  rw [et] at hr
  rw [ed]
  have hx : xp i j p < T.length := by unfold xp; split <;> assumption
  obtain ⟨v, ev⟩ := hr.last
  obtain ⟨a1, a2, a3⟩ := hr.ws.all ht wh
  have wv : Wd T.length v := fun b hb => a1 b (by rw [ev]; exact List.mem_append_left _ hb)
  have lv : v.length + 1 = h.length := by rw [← a2, ev, List.length_append]; rfl
  have e1 : alt ((i : Int) + 1) ((j : Int) + 1) (p + 1) = alt ((i : Int) + 1) ((j : Int) + 1) p ++ [((xp i j p : Nat) : Int) + 1] := by rw [alt_snoc, xp_eq]
  refine ⟨?_, ⟨v, ?_, by omega, wv, ?_⟩, ?_⟩
  · refine I.ws.app ?_
    rw [e]
    exact hr.ws.suf
  · show r.1 ++ (alt ((i : Int) + 1) ((j : Int) + 1) p).reverse = _
    rw [e1, List.reverse_append, ev, List.append_assoc]
    rfl
  · rw [e1, ← List.append_assoc]
    refine row_cancel ht hx ?_
    rw [row_undo ht hx, ← ev, a3, rh]
  · have lf := hr.few2
    rw [lh] at lf
    refine .inr ⟨by omega, ?_⟩
    show 2 * (s.2 ++ r.2).length + 2 ^ (w.length - (p + 1) + 1) ≤ 2 ^ w.length
    rw [List.length_append, show w.length - (p + 1) + 1 = w.length - p by omega]
    rcases I.few with ⟨rfl, z⟩ | ⟨h1, z⟩
    · rw [h0 rfl, z, Nat.sub_zero]
      show 2 * (0 + 0) + _ ≤ _
      omega
    · have : 2 ^ (w.length - p + 1) = 2 ^ (w.length - p) * 2 := Nat.pow_succ ..
      omega
end
end BW
set_option maxHeartbeats 1000000
namespace BW
open PySem L2 DL
theorem turn_at {T : Mat} (ht : Tab T) {h : List Int} {a b : Nat} (ha : a < T.length) (hb : b < T.length) (ne : a ≠ b) (h0 : 0 < at2 T a b) :
    mv T (h ++ alt ((a : Int) + 1) ((b : Int) + 1) (at2 T a b).toNat) (.turn h.length) = some (h ++ alt ((b : Int) + 1) ((a : Int) + 1) (at2 T a b).toNat) := by
  obtain ⟨m, em⟩ : ∃ m, (at2 T a b).toNat = m + 2 := by
    rcases ht.of a b ha hb ne with e | e | e | e | e
    · exact ⟨0, by rw [e]; rfl⟩
    · exact ⟨1, by rw [e]; rfl⟩
    · exact ⟨2, by rw [e]; rfl⟩
    · exact ⟨4, by rw [e]; rfl⟩
    · rw [e] at h0; exact absurd h0 (by decide)
  have la : (alt ((a : Int) + 1) ((b : Int) + 1) (at2 T a b).toNat).length = (at2 T a b).toNat := alt_length _ _ _
  have g0 : (h ++ alt ((a : Int) + 1) ((b : Int) + 1) (at2 T a b).toNat).getD h.length 0 = (a : Int) + 1 := by
    rw [List.getD_eq_getElem?_getD, List.getElem?_append_right (Nat.le_refl _), Nat.sub_self, em, alt_succ]; rfl
  have g1 : (h ++ alt ((a : Int) + 1) ((b : Int) + 1) (at2 T a b).toNat).getD (h.length + 1) 0 = (b : Int) + 1 := by
    rw [List.getD_eq_getElem?_getD, List.getElem?_append_right (by omega), show h.length + 1 - h.length = 1 by omega, em, alt_succ, alt_succ]; rfl
  have d1 : (h ++ alt ((a : Int) + 1) ((b : Int) + 1) (at2 T a b).toNat).drop h.length = alt ((a : Int) + 1) ((b : Int) + 1) (at2 T a b).toNat := List.drop_left
  have t1 : (alt ((a : Int) + 1) ((b : Int) + 1) (at2 T a b).toNat).take (at2 T a b).toNat = alt ((a : Int) + 1) ((b : Int) + 1) (at2 T a b).toNat := List.take_of_length_le (by rw [la]; exact Nat.le_refl _)
  have d2 : (h ++ alt ((a : Int) + 1) ((b : Int) + 1) (at2 T a b).toNat).drop (h.length + (at2 T a b).toNat) = [] := List.drop_eq_nil_of_le (by rw [List.length_append, la]; exact Nat.le_refl _)
  rw [mv_turn, g0, g1, ix_succ, ix_succ, if_pos ⟨by rw [List.length_append, la, em]; omega, fun z => ne (by omega)⟩, d1, t1, if_pos ⟨by omega, rfl⟩, d2, List.append_nil, List.take_left]
theorem fin_mv {T : Mat} (ht : Tab T) {h : List Int} {i j : Nat} (hi : i < T.length) (hj : j < T.length) (ne : i ≠ j) (h0 : 0 < at2 T i j) :
    mv T (h ++ (alt ((i : Int) + 1) ((j : Int) + 1) (at2 T i j).toNat).reverse) (.turn h.length) = some (h ++ (alt ((j : Int) + 1) ((i : Int) + 1) (at2 T i j).toNat).reverse) := by
  have sy := ht.sy i j hi hj
  rcases alt_rev ht hi hj ne h0 with ⟨a, b⟩ | ⟨a, b⟩
  · rw [a, b]; exact turn_at ht hi hj ne h0
  · rw [a, b]
    have := turn_at ht (h := h) hj hi (fun z => ne z.symm) (by rw [← sy]; exact h0)
    rw [← sy] at this
    exact this
theorem bl_succ {T : Mat} {n : Nat} {w : List Int} {i j : Nat} (hl : w.getLastD 0 = (i : Int) + 1) (ne : i ≠ j) : bl T (n + 1) w ((j : Int) + 1) =
    ((mv T (blS (bl T n) w.length ((i : Int) + 1) ((j : Int) + 1) (w, []) (at2 T i j).toNat).1 (.turn (w.length - (at2 T i j).toNat))).getD (blS (bl T n) w.length ((i : Int) + 1) ((j : Int) + 1) (w, []) (at2 T i j).toNat).1,
      (blS (bl T n) w.length ((i : Int) + 1) ((j : Int) + 1) (w, []) (at2 T i j).toNat).2 ++ [.turn (w.length - (at2 T i j).toNat)]) := by
  show (if w.getLastD 0 = (j : Int) + 1 then (w, []) else _) = _
  rw [hl, if_neg (fun z => ne (by omega)), ix_succ, ix_succ]
theorem ip_all {T : Mat} (ht : Tab T) {n : Nat} (ih : ∀ {w : List Int} {j : Nat}, Bq T w j → sz w ((j : Int) + 1) < n → Br T w j (bl T n w ((j : Int) + 1))) {w : List Int} {i j : Nat} (hw : Wd T.length w) (hs : Sh T w) (hl : w.getLastD 0 = (i : Int) + 1) (hi : i < T.length) (hj : j < T.length) (ne : i ≠ j) (hn : 2 * w.length < n)
    (bm : (at2 T i j).toNat ≤ w.length) (lns : ∀ p, p ≤ (at2 T i j).toNat → LN T (w ++ alt ((i : Int) + 1) ((j : Int) + 1) p) (w.length - p)) :
    ∀ p, p ≤ (at2 T i j).toNat → Ip T w i j p (blS (bl T n) w.length ((i : Int) + 1) ((j : Int) + 1) (w, []) p)
  | 0, _ => ⟨rfl, ⟨w, by show w = w ++ [].reverse; rw [List.reverse_nil, List.append_nil], rfl, hw, by show _ = row T (w ++ []); rw [List.append_nil]⟩, .inl ⟨rfl, rfl⟩⟩
  | p + 1, hp => by
    have I := ip_all ht ih hw hs hl hi hj ne hn bm lns p (by omega)
    generalize hsd : blS (bl T n) w.length ((i : Int) + 1) ((j : Int) + 1) (w, []) p = s at I
    obtain ⟨q, lq⟩ := I.head ht hw hi hj (by omega) (lns p (by omega)) (lns (p + 1) hp)
    show Ip T w i j (p + 1) (((bl T n) ((blS (bl T n) w.length ((i : Int) + 1) ((j : Int) + 1) (w, []) p).1.take (w.length - p)) (if p % 2 = 0 then ((i : Int) + 1) else ((j : Int) + 1))).1 ++ (blS (bl T n) w.length ((i : Int) + 1) ((j : Int) + 1) (w, []) p).1.drop (w.length - p), (blS (bl T n) w.length ((i : Int) + 1) ((j : Int) + 1) (w, []) p).2 ++ ((bl T n) ((blS (bl T n) w.length ((i : Int) + 1) ((j : Int) + 1) (w, []) p).1.take (w.length - p)) (if p % 2 = 0 then ((i : Int) + 1) else ((j : Int) + 1))).2)
    rw [xp_eq, hsd]
    have p0 : p = 0 → s.1.take (w.length - p) = w ∧ xp i j p = i := fun z => by
      subst z
      have : (w, []) = s := hsd
      subst this
      exact ⟨by rw [Nat.sub_zero, List.take_length], rfl⟩
    have szq : sz (s.1.take (w.length - p)) ((xp i j p : Nat) + 1) < n := by
      unfold sz
      rw [lq]
      by_cases c : p = 0
      · obtain ⟨e1, e2⟩ := p0 c
        rw [e1, e2, hl, if_pos rfl]
        omega
      · split <;> omega
    refine I.next ht hw hi hj (by omega) (ih q szq) fun z => ?_
    obtain ⟨e1, e2⟩ := p0 z
    rw [e1, e2, bl_same hl]
theorem bl_ok {T : Mat} (ht : Tab T) : ∀ (n : Nat) {w : List Int} {j : Nat}, Bq T w j → sz w ((j : Int) + 1) < n → Br T w j (bl T n w ((j : Int) + 1))
  | 0, w, j, _, h => absurd h (Nat.not_lt_zero _)
  | n + 1, w, j, q, h => by
    obtain ⟨v, i, hi, ew, hl, ni⟩ := q.own ht
    by_cases c : i = j
    · subst c
      rw [bl_same hl]
      exact ⟨rfl, ⟨v, ew⟩, Nat.zero_le _⟩
    · obtain ⟨b0, bm, lns⟩ := two_at ht q.hw q.sh hi q.hj c ni q.lo
      have hn : 2 * w.length < n := by
        unfold sz at h
        rw [hl, if_neg (fun z => c (by omega))] at h
        omega
      have I := ip_all ht (fun {w j} => bl_ok ht n (w := w) (j := j)) q.hw q.sh hl hi q.hj c hn bm lns (at2 T i j).toNat (Nat.le_refl _)
      rw [bl_succ hl c]
      generalize blS (bl T n) w.length ((i : Int) + 1) ((j : Int) + 1) (w, []) (at2 T i j).toNat = s at I
      obtain ⟨h1, e1, l1, w1, r1⟩ := I.ex
      have hmv : mv T s.1 (.turn (w.length - (at2 T i j).toNat)) = some (h1 ++ (alt ((j : Int) + 1) ((i : Int) + 1) (at2 T i j).toNat).reverse) := by
        rw [e1, ← l1]; exact fin_mv ht hi q.hj c b0
      obtain ⟨m, em⟩ := alt_pos ht hi q.hj c b0
      refine ⟨?_, ⟨h1 ++ (alt ((i : Int) + 1) ((j : Int) + 1) m).reverse, ?_⟩, ?_⟩
      · show Ws T w (s.2 ++ [.turn (w.length - (at2 T i j).toNat)]) ((mv T s.1 (.turn (w.length - (at2 T i j).toNat))).getD s.1)
        rw [hmv]
        exact I.ws.app ⟨_, _, rfl, hmv, rfl⟩
      · show (mv T s.1 (.turn (w.length - (at2 T i j).toNat))).getD s.1 = _
        rw [hmv]
        show h1 ++ (alt ((j : Int) + 1) ((i : Int) + 1) (at2 T i j).toNat).reverse = _
        rw [em, alt_succ, List.reverse_cons, List.append_assoc]
      · show 2 * (s.2 ++ [Deed.turn (w.length - (at2 T i j).toNat)]).length ≤ _
        rw [List.length_append]
        show 2 * (s.2.length + 1) ≤ _
        rcases I.few with ⟨z, _⟩ | ⟨_, z⟩
        · omega
        · have : 2 ^ (w.length - (at2 T i j).toNat + 1) = 2 ^ (w.length - (at2 T i j).toNat) * 2 := Nat.pow_succ ..
          have := Nat.two_pow_pos (w.length - (at2 T i j).toNat)
          omega
end BW
set_option maxHeartbeats 1000000
namespace BW
open PySem L2 DL
def Wo (T : Mat) : List Int → List Deed → List Int → Prop
  | w, [], v => v = w
  | w, e :: r, v => ∃ k u, (e = .turn k ∨ e = .out k) ∧ mv T w e = some u ∧ Wo T u r v
theorem Wo.app {T : Mat} : ∀ {es fs : List Deed} {w u v : List Int}, Wo T w es u → Wo T u fs v → Wo T w (es ++ fs) v
  | [], fs, w, u, v, h, g => by
    have h : u = w := h
    subst h
    exact g
  | e :: r, fs, w, u, v, ⟨k, x, a, b, c⟩, g => ⟨k, x, a, b, Wo.app c g⟩
theorem Ws.wo {T : Mat} : ∀ {es : List Deed} {w v : List Int}, Ws T w es v → Wo T w es v
  | [], w, v, h => h
  | e :: r, w, v, ⟨k, x, a, b, c⟩ => ⟨k, x, .inl a, by rw [a]; exact b, Ws.wo c⟩
theorem mv_out_at {T : Mat} {h z : List Int} {a : Int} : mv T (h ++ [a] ++ (a :: z)) (.out h.length) = some (h ++ z) := by
  have e : h ++ [a] ++ (a :: z) = h ++ (a :: a :: z) := by rw [List.append_assoc]; rfl
  rw [e, mv_out]
  have g0 : (h ++ (a :: a :: z)).getD h.length 0 = a := by rw [List.getD_eq_getElem?_getD, List.getElem?_append_right (Nat.le_refl _), Nat.sub_self]; rfl
  have g1 : (h ++ (a :: a :: z)).getD (h.length + 1) 0 = a := by rw [List.getD_eq_getElem?_getD, List.getElem?_append_right (by omega), show h.length + 1 - h.length = 1 by omega]; rfl
  rw [g0, g1, if_pos ⟨by rw [List.length_append]; simp, rfl⟩, List.take_left]
  congr 2
  rw [show h ++ a :: a :: z = (h ++ [a, a]) ++ z by rw [List.append_assoc]; rfl, show h.length + 2 = (h ++ [a, a]).length by rw [List.length_append]; rfl, List.drop_left]
def tsStep (T : Mat) (s : List Deed × List Int) (a : Int) : List Deed × List Int :=
  if a ∈ fall (row T s.2) then (s.1 ++ ((bl T 40 s.2 a).2 ++ [.out ((bl T 40 s.2 a).1.length - 1)]), (bl T 40 s.2 a).1.take ((bl T 40 s.2 a).1.length - 1)) else (s.1, s.2 ++ [a])
def ts (T : Mat) (w : List Int) : List Deed × List Int := w.foldl (tsStep T) ([], [])
structure Tq (T : Mat) (u : List Int) (s : List Deed × List Int) : Prop where
  wd : Wd T.length s.2
  sh : Sh T s.2
  rw_ : row T s.2 = row T u
  le : s.2.length ≤ u.length
  few : s.1.length < 2 ^ u.length
  led : ∀ z, Wo T (u ++ z) s.1 (s.2 ++ z)
theorem Tq.nil {T : Mat} : Tq T [] ([], []) := by
  refine ⟨fun a ha => (nomatch ha), ?_, rfl, Nat.le_refl _, by decide, fun z => rfl⟩
  obtain ⟨k, hk, h0⟩ := LN.has (T := T) (w := []) fun a ha => (nomatch ha)
  have : k = 0 := by have : k ≤ 0 := h0; omega
  subst this
  exact hk
theorem Tq.bq {T : Mat} {u : List Int} {s : List Deed × List Int} (q : Tq T u s) {i : Nat} (hi : i < T.length) (c : ((i : Int) + 1) ∈ fall (row T s.2)) (hl : u.length ≤ 16) : Bq T s.2 i ∧ sz s.2 ((i : Int) + 1) < 40 := by
  refine ⟨⟨hi, q.wd, q.sh, (mem_fall (by rw [row_length]; exact hi)).mp c⟩, ?_⟩
  have := q.le
  unfold sz
  split <;> omega
theorem Tq.step {T : Mat} (ht : Tab T) {u : List Int} {s : List Deed × List Int} (q : Tq T u s) {i : Nat} (hi : i < T.length) (hl : u.length ≤ 16) : Tq T (u ++ [(i : Int) + 1]) (tsStep T s ((i : Int) + 1)) := by
  have lu : (u ++ [(i : Int) + 1]).length = u.length + 1 := by rw [List.length_append]; rfl
  have rs : row T (s.2 ++ [(i : Int) + 1]) = row T (u ++ [(i : Int) + 1]) := row_app q.rw_
  have p2 : 2 ^ (u.length + 1) = 2 ^ u.length * 2 := Nat.pow_succ ..
  unfold tsStep
  by_cases c : ((i : Int) + 1) ∈ fall (row T s.2)
  · rw [if_pos c]
    obtain ⟨b, szb⟩ := q.bq hi c hl
    have br := bl_ok ht 40 b szb
    generalize bl T 40 s.2 ((i : Int) + 1) = r at br
    obtain ⟨v, ev⟩ := br.last
    obtain ⟨a1, a2, a3⟩ := br.ws.all ht q.wd
    have lv : r.1.length - 1 = v.length := by rw [ev, List.length_append]; rfl
    have tv : r.1.take (r.1.length - 1) = v := by rw [lv, ev, List.take_left]
    have wv : Wd T.length v := fun x hx => a1 x (by rw [ev]; exact List.mem_append_left _ hx)
    have shr : Sh T (v ++ [(i : Int) + 1]) := by
      have := q.sh.cong q.wd a1 a3.symm
      rw [← a2, ev] at this
      exact this
    have pl : 2 ^ s.2.length ≤ 2 ^ u.length := Nat.pow_le_pow_right (by decide) q.le
    refine ⟨?_, ?_, ?_, ?_, ?_, fun z => ?_⟩
    · show Wd T.length (r.1.take (r.1.length - 1)); rw [tv]; exact wv
    · show Sh T (r.1.take (r.1.length - 1)); rw [tv]; exact (Sh.last ht hi wv shr).2
    · show row T (r.1.take (r.1.length - 1)) = _
      rw [tv, ← rs, ← row_undo ht hi (w := v), ← ev]
      exact row_app a3
    · show (r.1.take (r.1.length - 1)).length ≤ _
      rw [tv, lu]
      have := q.le
      have : v.length + 1 = s.2.length := by rw [← a2, ev, List.length_append]; rfl
      omega
    · show (s.1 ++ (r.2 ++ [Deed.out (r.1.length - 1)])).length < _
      rw [List.length_append, List.length_append, lu]
      show s.1.length + (r.2.length + 1) < _
      have := q.few
      have := br.few
      omega
    · show Wo T (u ++ [(i : Int) + 1] ++ z) (s.1 ++ (r.2 ++ [.out (r.1.length - 1)])) (r.1.take (r.1.length - 1) ++ z)
      rw [tv, lv, List.append_assoc u]
      refine (q.led ([(i : Int) + 1] ++ z)).app ?_
      refine Wo.app (Ws.suf (z := [(i : Int) + 1] ++ z) br.ws).wo ?_
      rw [ev]
      exact ⟨v.length, v ++ z, .inr rfl, mv_out_at, rfl⟩
  · rw [if_neg c]
    have m := LN.more ht q.wd q.sh hi
    rw [if_neg c] at m
    refine ⟨wd_app q.wd (wd_one hi), ?_, rs, ?_, ?_, fun z => ?_⟩
    · show LN T (s.2 ++ [(i : Int) + 1]) (s.2 ++ [(i : Int) + 1]).length
      rw [List.length_append]
      exact m
    · show (s.2 ++ [(i : Int) + 1]).length ≤ _
      rw [List.length_append, lu]
      have := q.le
      show s.2.length + 1 ≤ _
      omega
    · show s.1.length < _
      rw [lu]
      have := q.few
      omega
    · show Wo T (u ++ [(i : Int) + 1] ++ z) s.1 (s.2 ++ [(i : Int) + 1] ++ z)
      rw [List.append_assoc, List.append_assoc]
      exact q.led _
end BW
set_option maxHeartbeats 1000000
set_option autoImplicit false
namespace BW
open PySem L2 DL
def tbS (T : Mat) (w v : List Int) : Nat → List Int × List Deed
  | 0 => (w, [])
  | p + 1 => ((bl T 40 ((tbS T w v p).1.take (v.length - p)) (v.getD (v.length - p - 1) 0)).1, (tbS T w v p).2 ++ (bl T 40 ((tbS T w v p).1.take (v.length - p)) (v.getD (v.length - p - 1) 0)).2)
def tb (T : Mat) (w v : List Int) : List Deed := (tbS T w v v.length).2
theorem Sh.pre {T : Mat} (ht : Tab T) : ∀ (n : Nat) {z : List Int}, z.length = n → ∀ {w : List Int}, Wd T.length w → Wd T.length z → Sh T (w ++ z) → Sh T w
  | 0, z, hn, w, hw, hz, h => by
    have : z = [] := List.eq_nil_of_length_eq_zero hn
    subst this
    rw [List.append_nil] at h
    exact h
  | n + 1, z, hn, w, hw, hz, h => by
    rcases snoc_cases hz with e | ⟨y, i, hi, hy, e⟩
    · rw [e] at hn; cases hn
    · subst e
      rw [← List.append_assoc] at h
      rw [List.length_append, List.length_singleton] at hn
      exact Sh.pre ht n (by omega) hw hy (Sh.last ht hi (wd_app hw hy) h).2
structure Tb (T : Mat) (w v : List Int) (p : Nat) (s : List Int × List Deed) : Prop where
  wd : Wd T.length (s.1.take (v.length - p))
  sh : Sh T (s.1.take (v.length - p))
  rw_ : row T (s.1.take (v.length - p)) = row T (v.take (v.length - p))
  ln : (s.1.take (v.length - p)).length = v.length - p
  few : 2 * s.2.length + 2 ^ (v.length - p + 1) ≤ 2 ^ (v.length + 1)
  led : Ws T w s.2 (s.1.take (v.length - p) ++ v.drop (v.length - p))
structure Tp (T : Mat) (w v : List Int) : Prop where
  hw : Wd T.length w
  hv : Wd T.length v
  sw : Sh T w
  sv : Sh T v
  al : row T w = row T v
theorem Tp.len {T : Mat} {w v : List Int} (h : Tp T w v) : w.length = v.length := (h.sw.cong h.hw h.hv h.al).uniq h.sv
theorem Tp.zero {T : Mat} {w v : List Int} (h : Tp T w v) : Tb T w v 0 (w, []) := by
  have l := h.len
  have e : (w, ([] : List Deed)).1.take (v.length - 0) = w := by rw [Nat.sub_zero, ← l]; exact List.take_length
  have e2 : v.take (v.length - 0) = v := by rw [Nat.sub_zero]; exact List.take_length
  have e3 : v.drop (v.length - 0) = [] := by rw [Nat.sub_zero]; exact List.drop_length
  refine ⟨by rw [e]; exact h.hw, by rw [e]; exact h.sw, by rw [e, e2]; exact h.al, by rw [e, l]; rfl, ?_, ?_⟩
  · show 2 * 0 + 2 ^ (v.length - 0 + 1) ≤ _
    rw [Nat.sub_zero]
    omega
  · rw [e, e3, List.append_nil]; rfl
theorem Tp.at_ {T : Mat} {w v : List Int} (h : Tp T w v) {p : Nat} (hp : p < v.length) : ∃ j : Nat, j < T.length ∧ v[v.length - p - 1]? = some ((j : Int) + 1) ∧ v.getD (v.length - p - 1) 0 = (j : Int) + 1 ∧ v.take (v.length - p) = v.take (v.length - (p + 1)) ++ [(j : Int) + 1] ∧ v.drop (v.length - (p + 1)) = ((j : Int) + 1) :: v.drop (v.length - p) := by
  have hg : v[v.length - p - 1]? = some (v[v.length - p - 1]'(by omega)) := List.getElem?_eq_getElem _
  have wa := h.hv _ (List.getElem_mem (by omega : v.length - p - 1 < v.length))
  obtain ⟨j, ej⟩ : ∃ j : Nat, v[v.length - p - 1]'(by omega) = (j : Int) + 1 := ⟨(v[v.length - p - 1]'(by omega) - 1).toNat, by omega⟩
  rw [ej] at hg wa
  have e1 : v.length - (p + 1) = v.length - p - 1 := by omega
  have e2 : v.length - p = v.length - p - 1 + 1 := by omega
  refine ⟨j, by omega, hg, by rw [List.getD_eq_getElem?_getD, hg]; rfl, ?_, ?_⟩
  · rw [e1]
    conv => lhs; rw [e2]
    rw [List.take_succ, hg]; rfl
  · rw [e1, List.drop_eq_getElem_cons (by omega : v.length - p - 1 < v.length), ej, ← e2]
theorem Tb.bq {T : Mat} (ht : Tab T) {w v : List Int} (h : Tp T w v) {p j : Nat} {s : List Int × List Deed} (I : Tb T w v p s) (hp : p < v.length) (hj : j < T.length) (et : v.take (v.length - p) = v.take (v.length - (p + 1)) ++ [(j : Int) + 1]) (hl : v.length ≤ 16) :
    Bq T (s.1.take (v.length - p)) j ∧ sz (s.1.take (v.length - p)) ((j : Int) + 1) < 40 := by
  have wt : ∀ n, Wd T.length (v.take n) := fun n a ha => h.hv a (List.mem_of_mem_take ha)
  have wdp : ∀ n, Wd T.length (v.drop n) := fun n a ha => h.hv a (List.mem_of_mem_drop ha)
  have sp : Sh T (v.take (v.length - p)) := Sh.pre ht _ rfl (wt _) (wdp (v.length - p)) (by rw [List.take_append_drop]; exact h.sv)
  refine ⟨⟨hj, I.wd, I.sh, ?_⟩, ?_⟩
  · rw [I.rw_, et]
    rw [et] at sp
    exact (Sh.last ht hj (wt _) sp).1
  · unfold sz
    rw [I.ln]
    split <;> omega
theorem Tb.next {T : Mat} (ht : Tab T) {w v : List Int} (h : Tp T w v) {p : Nat} {s : List Int × List Deed} (I : Tb T w v p s) (hp : p < v.length) (hl : v.length ≤ 16) :
    Tb T w v (p + 1) ((bl T 40 (s.1.take (v.length - p)) (v.getD (v.length - p - 1) 0)).1, s.2 ++ (bl T 40 (s.1.take (v.length - p)) (v.getD (v.length - p - 1) 0)).2) := by
  obtain ⟨j, hj, _, eg, et, ed⟩ := h.at_ hp
  obtain ⟨b, szb⟩ := I.bq ht h hp hj et hl
  have br := bl_ok ht 40 b szb
  rw [eg]
  generalize bl T 40 (s.1.take (v.length - p)) ((j : Int) + 1) = r at br
  obtain ⟨x, ex⟩ := br.last
  obtain ⟨a1, a2, a3⟩ := br.ws.all ht I.wd
  have lx : x.length = v.length - (p + 1) := by
    have := I.ln
    have : x.length + 1 = r.1.length := by rw [ex, List.length_append]; rfl
    omega
  have tx : r.1.take (v.length - (p + 1)) = x := by rw [ex, ← lx, List.take_left]
  have wx : Wd T.length x := fun y hy => a1 y (by rw [ex]; exact List.mem_append_left _ hy)
  have shr : Sh T (x ++ [(j : Int) + 1]) := by
    have := I.sh.cong I.wd a1 a3.symm
    rw [← a2, ex] at this
    exact this
  have lf := br.few2
  rw [I.ln] at lf
  refine ⟨by rw [tx]; exact wx, by rw [tx]; exact (Sh.last ht hj wx shr).2, ?_, by rw [tx]; exact lx, ?_, ?_⟩
  · rw [tx]
    refine row_cancel ht hj ?_
    rw [← ex, ← et, a3, I.rw_]
  · show 2 * (s.2 ++ r.2).length + 2 ^ (v.length - (p + 1) + 1) ≤ _
    rw [List.length_append, show v.length - (p + 1) + 1 = v.length - p by omega]
    have := I.few
    have : 2 ^ (v.length - p + 1) = 2 ^ (v.length - p) * 2 := Nat.pow_succ ..
    omega
  · show Ws T w (s.2 ++ r.2) (r.1.take (v.length - (p + 1)) ++ v.drop (v.length - (p + 1)))
    rw [tx, ed]
    have e : x ++ ((j : Int) + 1) :: v.drop (v.length - p) = r.1 ++ v.drop (v.length - p) := by rw [ex, List.append_assoc]; rfl
    rw [e]
    exact I.led.app (Ws.suf br.ws)
theorem Tp.all {T : Mat} (ht : Tab T) {w v : List Int} (h : Tp T w v) (hl : v.length ≤ 16) : ∀ p, p ≤ v.length → Tb T w v p (tbS T w v p)
  | 0, _ => h.zero
  | p + 1, hp => (Tp.all ht h hl p (by omega)).next ht h (by omega) hl
theorem Tp.end_ {T : Mat} (ht : Tab T) {w v : List Int} (h : Tp T w v) (hl : v.length ≤ 16) : Ws T w (tb T w v) v := by
  have I := (h.all ht hl v.length (Nat.le_refl _)).led
  rw [Nat.sub_self, List.take_zero, List.drop_zero, List.nil_append] at I
  exact I
end BW
namespace DL
open PySem L2
open PySem.W (Frag)
section
variable {X : Cx} {c : C} {tg : Expr}
theorem pid_seq (hK : c.K = X.K) {l : Expr} {t : DE} (h : PE X l (LE c t)) : PI X tg l (LI c (iSeq t)) := by
  refine ⟨fun pins s σ H R I ⟨st, Z, rp, q, f⟩ => ?_⟩
  refine thn (h.run pins s σ H (fun v H1 => ∃ d k ds, d.items = some ds ∧ Z ds k ∧ Rep c (st.at k) σ H1 ∧ AdvE c st.X H H1 ∧ Rl c.K (c.hid st.X H1) v d) I
    ⟨st, _, rp, q, fun d k ⟨ds, h1, h2⟩ v H1 r1 a1 e1 => ⟨d, k, ds, h1, h2, r1, a1, e1⟩⟩) fun v s1 ⟨x, H1, I1, rv, d, k, ds, hd, hz, rp1, a1, e1⟩ => ?_
  have fresh : ∀ b, s1.heap.objs.size ≤ b → H1 b = none := fun b hb => I1.hok.fresh hb
  have one : ∀ b ∈ [s1.heap.objs.size], s1.heap.objs.size ≤ b := fun b hb => by
    rw [List.mem_singleton.mp hb]; exact Nat.le_refl _
  cases d <;> first | cases hd | skip
  · obtain ⟨a, ws, rfl, h1, r⟩ := e1.lstE
    cases (show _ = Value.ref a from rv)
    obtain ⟨its, rv', p', hz'⟩ := I1.list (SqL.of (wo_sub _ _ _ _ h1) : SqL X.K H1 a ws)
    exact wpAny_pyIter_list p'.isList ⟨_, [s1.heap.objs.size], _, _, H1, rfl, I1.kept (t' := s1.toks) (fun b o e => Heap.get?_push_of_some _ e), turn_list a _,
      ⟨_, Heap.get?_push_size _ rfl, rfl, rfl⟩, fun b hb => I1.fpOk (one b hb) (fresh b (one b hb)), f _ k hz _ H1 rp1 a1 (Yl.list hK h1 r)⟩
  · obtain ⟨a, ws, rfl, h1, r⟩ := e1.tupE
    cases (show _ = Value.ref a from rv)
    obtain ⟨its, rv', p', hz'⟩ := I1.tuple (hK ▸ (wo_sub _ _).st h1 : SqT X.K H1 a ws)
    exact wpAny_pyIter_tuple (show s1.heap.IsTuple a its.toArray from p') ⟨_, [s1.heap.objs.size], _, _, H1, rfl, I1.kept (t' := s1.toks) (fun b o e => Heap.get?_push_of_some _ e), turn_tuple a _,
      ⟨_, Heap.get?_push_size _ rfl, rfl, rfl⟩, fun b hb => I1.fpOk (one b hb) (fresh b (one b hb)), f _ k hz _ H1 rp1 a1 (Yl.tup hK h1 r)⟩
end
end DL
namespace DL
open PySem L2
open PySem.W (Frag)
@[reducible] def Sl.plain : Sl → Bool
  | .own _ _ => false
  | _ => true
structure MetD (P : Program) (w : World) (K : Frag) (mg : PySem.Str → Option Value) (base : Heap) (k : Nat) (C : Addr) (m : PySem.Str) (sp : DSp) : Prop where
  ex : ∃ f fd ps, Meth K C m f ∧ FnOk P w K mg base CX0 k f fd ps (spD K false sp) ∧ Binds K fd ps []
abbrev dMeth (C : Addr) (m : PySem.Str) (sp : DSp) (o : DE) (t : DA) : DE := fun s Q => o s fun x k => (∃ ns xs, x = .ins C ns xs ∧ ns.all (fun n => n != m) = true) ∧ t (s.at k) fun ds k1 => sp (x :: ds) 0 fun d _ => Q d k1
theorem lookup_offD {α : Type} {m : PySem.Str} : ∀ {ns : List PySem.Str} {vs : List α}, ns.all (fun n => n != m) = true → (ns.zip vs).lookup m = none
  | [], _, _ => rfl
  | n :: r, [], _ => rfl
  | n :: r, v :: vs, h => by
    obtain ⟨h1, h2⟩ := Bool.and_eq_true_iff.mp (show ((n != m) && r.all (fun n => n != m)) = true from h)
    rw [List.zip_cons_cons, List.lookup_cons]
    have : (m == n) = false := by
      have := bne_iff_ne.mp h1
      exact beq_eq_false_iff_ne.mpr fun z => this z.symm
    rw [this]
    exact lookup_offD h2
section
variable {X : Cx} {c : C} {k j : Nat} {m : PySem.Str} {sp : DSp} {pos apos : Pos} {Cl : Addr}
theorem pd_meth {pl : Sem Bool} (hK : c.K = X.K) (hC : Cls X.K Cl) (F : MetD X.prog X.w X.K X.mg X.base k Cl m sp) (hr : Room j X.A) (hk : k ≤ j) {o e : Expr} {es : List Expr} {to : DE} {t : DA} (ho : PE X o (LE c to)) (ha : PA X (e :: es) (LA c t))
    (hst : starEach (e :: es) X.env = (false, eval e X.env) :: starEach es X.env := by rfl) (hpl : (backTo pos (starEach es X.env)).any (·.1) = false := by rfl)
    (ht : eval (.Call (.Attribute o m apos) (e :: es) [] pos) X.env = (do
      let ov ← eval o X.env
      standAt apos.atName
      let (f, first) ← holding [ov] (getMethod ov m pl)
      callWith pos f first (backTo pos (starEach (e :: es) X.env)) (backToKw pos (keywordEach [] X.env))) := by rfl) :
    PE X (.Call (.Attribute o m apos) (e :: es) [] pos) (LE c (dMeth Cl m sp to t)) := by
  obtain ⟨f, fd, ps, M, G, b⟩ := F.ex
  refine (pe_meth ho hC M G (hr.mono hk) b .nil pass0 ha hst hpl ht).weak fun σ H Q ⟨s, R, rp, q, fn⟩ => ⟨s, _, rp, q, fun d k1 ⟨⟨ns, xs, hd, hn⟩, h1⟩ v H1 r1 a1 e1 => ?_⟩
  subst hd
  obtain ⟨a, dx, us, rfl, h2, l, r⟩ := e1.insE
  refine ⟨a, dx, _, rfl, wo_sub _ _ _ _ h2, lookup_offD hn, s.at k1, _, r1, h1, fun ds k2 h3 vs H2 r2 a2 e2 => ?_⟩
  refine ⟨none, Ml c.M ++ s.X, 0, _ :: ds, _ :: vs, _, ⟨rfl, by rw [List.append_nil]⟩, ⟨fun a _ => by simp [Ml], r2.allHid, trivial, hK ▸ RlA.cons (e1.mono a2.sub) e2, r2.allTb⟩, h3, fun d k' hR v H' af er => ?_⟩
  have z := Rep.after (s := s.at k2) r2 ⟨af.sub, af.old, af.m, af.tb⟩
  exact fn d k2 hR v H' z.1 ((a1.trans a2).trans z.2) (hK ▸ er)
end
end DL
namespace BW
open PySem L2 DL
def sp_check_letters : DSp := fun ds k R => ∃ n a b : Int, ds = [.int n, .int a, .int b] ∧ 1 ≤ a ∧ a ≤ n ∧ 1 ≤ b ∧ b ≤ n ∧ R .non k
abbrev t_check_letters : DS := (dFor (iTp (dTup (dCons (dVar 1) (dCons (dVar 2) dNil)))) (dgN 3) (dIfS (dNot (dTru (dCall sp_is_letter (dCons (dVar 3) (dCons (dVar 0) dNil))))) (fun _ _ => False) dNext))
def sp_bond (BC : Addr) : DSp := fun ds k R => ∃ T a b, ds = [bnd BC T, .int a, .int b] ∧ Tab T ∧ 1 ≤ a ∧ a ≤ T.length ∧ 1 ≤ b ∧ b ≤ T.length ∧ R (.int (at2 T (ix a) (ix b))) k
abbrev t_bond (BC : Addr) : DS := (dSeq (dDrop (dCall sp_check_letters (dCons (dLen (dFld BC "table" (dVar 0))) (dCons (dVar 1) (dCons (dVar 2) dNil)))))
  (dRet (dOp oIx (dOp oIx (dFld BC "table" (dVar 0)) (dOp oSub (dVar 1) (dC (.int 1)))) (dOp oSub (dVar 2) (dC (.int 1))))))
theorem r_check_letters (X : List Addr) (ds : List D) (k : Nat) (R : D → Nat → Prop) (h : sp_check_letters ds k R) : t_check_letters (En R) (St0 false 4 ds X k) := by
  obtain ⟨n, a, b, rfl, a1, a2, b1, b2, h⟩ := h
  refine ⟨_, rfl, _, rfl, by show 2 ≤ lim; decide, _, rfl, fun i s' => ∃ x3, s' = ⟨X, [.dat (.int n), .dat (.int a), .dat (.int b), x3], k⟩, ⟨_, rfl⟩, ?_, ?_⟩
  · rintro i d s' hd ⟨x3, rfl⟩
    obtain ⟨z, rfl, z1, z2⟩ : ∃ z : Int, d = .int z ∧ 1 ≤ z ∧ z ≤ n := by
      match i, hd with
      | 0, hd => cases hd; exact ⟨_, rfl, a1, a2⟩
      | 1, hd => cases hd; exact ⟨_, rfl, b1, b2⟩
    refine ⟨_, rfl, _, rfl, .int z, n, rfl, rfl, ?_⟩
    have e : D.isL n (.int z) = true := by
      show (decide (1 ≤ z) && decide (z ≤ n)) = true
      rw [decide_eq_true z1, decide_eq_true z2]; rfl
    rw [e]
    exact ⟨_, rfl, iteF ⟨_, rfl⟩⟩
  · rintro s' ⟨x3, rfl⟩
    exact h
theorem r_bond (BC : Addr) (X : List Addr) (ds : List D) (k : Nat) (R : D → Nat → Prop) (h : sp_bond BC ds k R) : t_bond BC (En R) (St0 false 3 ds X k) := by
  obtain ⟨T, a, b, rfl, ht, a1, a2, b1, b2, h⟩ := h
  obtain ⟨i, rfl⟩ : ∃ i : Nat, a = (i : Int) + 1 := ⟨(a - 1).toNat, by omega⟩
  obtain ⟨j, rfl⟩ : ∃ j : Nat, b = (j : Int) + 1 := ⟨(b - 1).toNat, by omega⟩
  have hi : i < T.length := by omega
  have hj : j < T.length := by omega
  have ei : ix ((i : Int) + 1) = i := by unfold ix; omega
  have ej : ix ((j : Int) + 1) = j := by unfold ix; omega
  rw [ei, ej] at h
  have row : ∀ i : Nat, i < T.length → ∀ z : Int, z = (i : Int) → atI (T.map tI) z = some (tI (T.getD i [])) := fun i hi z e => by rw [e]; exact atM [] hi
  have item : ∀ i j : Nat, i < T.length → j < T.length → ∀ z : Int, z = (j : Int) → atI ((T.getD i []).map D.int) z = some (.int (at2 T i j)) := fun i j hi hj z e => by rw [e]; exact atM 0 (by rw [ht.sq i hi]; exact hj)
  refine ⟨_, rfl, _, _, tM T, rfl, rfl, _, rfl, _, rfl, _, rfl, _, _, _, rfl, a1, ?_, b1, ?_, fun X => ?_⟩
  · rw [List.length_map]; exact a2
  · rw [List.length_map]; exact b2
  · exact ⟨_, rfl, _, _, tM T, rfl, rfl, _, rfl, _, _, rfl, row i hi _ (by omega), _, rfl, _, _, rfl, item i j hi hj _ (by omega), h⟩
end BW
namespace DL
open PySem PySem.Spec PyProof.Rows L2
open PySem.W (Frag)
end DL
set_option maxHeartbeats 1000000
namespace DL
open PySem PySem.Spec PyProof.Rows L2
open PySem.W (Frag)
end DL
set_option maxHeartbeats 2000000
namespace DL
open PySem PySem.Spec PyProof.Rows L2
end DL
set_option maxHeartbeats 1000000
namespace DL
open PySem L2
open PySem.W (Frag)
def XRl (K : Frag) (H : Hp) (cls : Value) (dd : Option Addr) (d : D) : Prop := ∃ n ns ds vs, d = .exc n ns ds ∧ cls = .ref (He.ga K n) ∧ ExF H dd ns vs ∧ ns.length = vs.length ∧ RlA K H vs ds
theorem XRl.mono {K : Frag} {A B : Hp} (x : Sub A B) {cls : Value} {dd : Option Addr} {d : D} (h : XRl K A cls dd d) : XRl K B cls dd d := by
  obtain ⟨n, ns, ds, vs, e, c, f, l, r⟩ := h
  exact ⟨n, ns, ds, vs, e, c, f.mono x, l, r.mono x⟩
abbrev EX := D → S → Prop
def WL (c : C) (Ex : EX) : WX := fun cls dd σ H => ∃ s x, Rep c s σ H ∧ XRl c.K (c.hid s.X H) cls dd x ∧ Ex x s
theorem WL.imp {c : C} {Ex Ex' : EX} (h : ∀ d s, Ex d s → Ex' d s) : ∀ cls dd σ H, WL c Ex cls dd σ H → WL c Ex' cls dd σ H := fun _ _ _ _ ⟨s, x, r, e, q⟩ => ⟨s, x, r, e, h _ _ q⟩
abbrev DSpX := List D → Nat → (D → Nat → Prop) → (D → Nat → Prop) → Prop
def spDX (K : Frag) (hm : Bool) (sp : DSpX) : Sp := fun vs H Q E => ∃ (M : Option Mc) (X0 : List Addr) (k : Nat) (ds : List D) (ws : List V) (R Ex : D → Nat → Prop),
  (match hm with | true => ∃ m, M = some m ∧ vs = .ref m.pm :: ws | false => M = none ∧ vs = ws) ∧ Ahd K M X0 H k ws ds ∧ sp ds k R Ex ∧
  (∀ d k', R d k' → ∀ v H', Aft K M X0 H H' k' → Rl K (wo H' (Ml M ++ X0)) v d → Q v H') ∧
  ∀ d k', Ex d k' → ∀ cls dd H', Aft K M X0 H H' k' → XRl K (wo H' (Ml M ++ X0)) cls dd d → E cls dd H'
structure CalX (P : Program) (w : World) (K : Frag) (mg : PySem.Str → Option Value) (base : Heap) (k : Nat) (x : PySem.Str) (sp : DSpX) : Prop where
  ex : ∃ f fd ps, FnOk P w K mg base (L2.CX P w) k f fd ps (spDX K false sp) ∧ mg x = some (.ref f) ∧ PySem.W.keepIn K (.ref f) = true ∧ Binds K fd ps []
end DL
set_option maxHeartbeats 1000000
namespace DL
open PySem PySem.Spec PyProof.Rows L2
end DL
set_option maxHeartbeats 1000000
namespace DL
open PySem L2
open PySem.W (Frag)
@[reducible] def Sl.noOwn : Sl → Bool
  | .own _ _ => false
  | _ => true
abbrev C.from (c : C) (s : S) (H : Hp) : C := ⟨c.K, c.M, s.X, H, c.ow⟩
section
variable {c : C} {s s2 : S} {σ τ : L2.St} {H G : Hp}
theorem Rep.from (r : Rep c s σ H) (no : s.sl.all Sl.noOwn = true) : Rep (c.from s H) s σ H :=
  ⟨Sub.refl _, fun _ _ _ _ => rfl, fun _ h => h, r.xm, r.xs, r.m, fun i x e => by
    have q := r.slot i x e
    cases x with
    | own p ds =>
      have := List.all_eq_true.mp no _ (List.mem_of_getElem? e)
      cases this
    | no => exact q
    | dat d => exact q
    | mst => exact q
    | scr ns => exact q, r.apart, r.len, .refl, r.xt⟩
theorem Rep.back (r : Rep c s σ H) (q : Rep (c.from s H) s2 τ G) : Rep c s2 τ G :=
  ⟨r.sub.trans q.sub, fun a h1 h2 h3 => (q.old a (r.x0 a h1) h2 (r.xs a (r.x0 a h1))).trans (r.old a h1 h2 h3), fun a h => q.x0 a (r.x0 a h), q.xm, q.xs, q.m, fun i x e => by
    have y := q.slot i x e
    cases x with
    | own p ds =>
      obtain ⟨e', h1, h2, h3, vs, h4, h5⟩ := y
      exact ⟨e', h1, fun z => h2 (r.x0 p z), (r.nofree h3).2.2.2, vs, h4, h5⟩
    | no => exact y
    | dat d => exact y
    | mst => exact y
    | scr ns => exact y, q.apart, q.len, r.tb.trans q.tb, q.xt⟩
theorem Fits.from {DD : DEnds} {D : Ends} (r : Rep c s σ H) (f : Fits c s.X H DD D) : Fits (c.from s H) s.X H DD D :=
  ⟨fun s' σ' H' q a h => f.nx s' σ' H' (r.back q) a h, fun s' σ' H' q a h => f.bk s' σ' H' (r.back q) a h, fun s' σ' H' q a h => f.ct s' σ' H' (r.back q) a h, fun d k v H' fi e h =>
    have up : Sub (c.hid s.X H') (c.hid c.X0 H') := wo_more fun a h => (List.mem_append.mp h).elim (List.mem_append_left _) fun h => List.mem_append_right _ (r.x0 a h)
    f.rt d k v H' ⟨r.sub.trans (fi.sub.trans up), fun a h1 h2 h3 => (fi.old a (r.x0 a h1) h2 (r.xs a (r.x0 a h1))).trans (r.old a h1 h2 h3), fi.m, r.tb.trans fi.tb⟩ (e.mono up) h⟩
end
end DL
set_option maxHeartbeats 1000000
namespace DL
open PySem PySem.Spec PyProof.Rows L2 LamX
theorem Takes.len {X : Cx} {W : WX} (t : Takes X W) : Takes X (fun cls d σ H => σ.length = X.N.length → W cls d σ H) := fun u s' ⟨a, B, sI, pins, σ, H, cls, d, e, I, nb, up, sky, na, os, ag, w⟩ =>
  t u s' ⟨a, B, sI, pins, σ, H, cls, d, e, I, nb, up, sky, na, os, ag, w I.len⟩
theorem PE.ex {X : Cx} {e : Expr} {t : TE} (h : PE X e t) : PE X e (fun σ H Q => ∃ R : VK, t σ H R ∧ ∀ v H', R v H' → Q v H') := ⟨fun p s σ H Q I ⟨R, q, f⟩ => thn (h.run p s σ H R I q) fun u s1 ⟨x, H1, I1, r, q1⟩ => ⟨x, H1, I1, r, f _ _ q1⟩⟩
end DL
set_option maxHeartbeats 1000000
namespace DL
open PySem PySem.Spec PyProof.Rows L2 LamX
def NoTs (H : Hp) : Prop := ∀ a ps, H a ≠ some (.tbl ps)
theorem tbk_none {A B : Hp} (h : NoTs A) : TbK A B := by
  refine ⟨fun T t p hp => ?_, fun p ps e => absurd e (h p ps)⟩
  obtain ⟨ps, e, _⟩ := t p hp
  exact absurd e (h _ ps)
theorem Rep.extN {c : C} {s : S} {σ : L2.St} {H H1 : Hp} {m : Mc} (r : Rep c s σ H) (hM : c.M = some m) (h0 : NoTs c.H0) (ex : ExtN H H1) (tb : Tabs m.T H1) : Rep c s σ H1 ∧ AdvE c s.X H H1 := by
  have sub : Sub (c.hid s.X H) (c.hid s.X H1) := fun a o e => by
    obtain ⟨n, h, nt⟩ := wo_all e
    exact wo_of n (ex a o h nt) nt
  have same : ∀ a ∈ s.X, H1 a = H a := fun a ha => by
    cases e : H a with
    | none => exact absurd e (r.xs a ha)
    | some o => exact ex a o e fun ps z => r.xt a ha ps (by rw [e, z])
  refine ⟨r.step (k := s.k) sub (fun a ha _ => same a ha) ?_ (tbk_none h0), sub, same⟩
  have q := r.m
  rw [hM] at q ⊢
  obtain ⟨cs, gs, n, ok, le, _⟩ := q
  exact ⟨cs, gs, n, ⟨ex _ _ ok.hm (fun _ z => by cases z), ex _ _ ok.hc (fun _ z => by cases z), ex _ _ ok.hg (fun _ z => by cases z), ok.lc, ok.bc, ok.lg, ok.bg⟩, le, tb⟩
end DL
set_option maxHeartbeats 1000000
namespace DL
open PySem PySem.Spec PyProof.Rows L2
open PySem.W (Frag)
end DL
set_option maxHeartbeats 1000000
namespace DL
open PySem L2
open PySem.W (Frag)
end DL
set_option maxHeartbeats 1000000
namespace L2G
open PySem PySem.Spec PyProof.Rows L2 LamX
theorem lawGT {P : Program} {w : World} {K : PySem.W.Frag} {mg mb : Str → Option Value} {k : Nat} {fa a : Addr} {cs : List (Addr × Addr)} {fd : FuncData} {x : Str} {sp : Sp} {s₁ : Shared} {vs : List Value} {ns : List Int}
    (kin : K.In s₁.heap) (gns : s₁.heap.Ns mainGlobals mg) (bns : s₁.heap.Ns builtinsNs mb) (bbo : ∀ x : Str, x ≠ "__name__" → mb x = bootBuiltins x) (nlim : s₁.heap.NoLimit) (gens : s₁.gens = #[])
    (tabs : ∀ p ∈ cs, s₁.heap.get? p.2 = some { cls := .none, data := .fields #[] }) (offT : ∀ p ∈ cs, K.lookup p.2 = none) (heads : ∀ p ∈ cs, PySem.W.CodeHd s₁.heap p.1 p.2)
    (bmod : ∃ (bm : Addr) (ob : Obj), mg "__builtins__" = some (.ref bm) ∧ bm ≠ builtinsNs ∧ s₁.heap.get? bm = some ob ∧ ob.cls = .type "module" ∧ ob.dict = some builtinsNs ∧ ob.data = .plain)
    (ob : s₁.heap.get? a = some { cls := .type "list", data := .seq vs.toArray }) (iar : IntsAre vs ns) (small : ns.length ≤ sizeLine) (room : Room k callerA)
    (F : ∀ base : Heap, K.In base → base.Ns mainGlobals mg → (∀ p ∈ cs, TabB base mg p.1 p.2) → FnG P w K mg base k fa fd [x] sp) (bind : ∀ (s : Shared) (u : Value), BindsTo s fd ⟨[u], []⟩ [(x, u)])
    (prom : ∀ H : Hp, (∀ p ∈ cs, H p.2 = some (.tbl #[])) → SqL K H a (ns.map V.int) → sp [.ref a] H (fun v _ => v = .bl true) fun _ _ _ => False) :
    codeAny (model P w) callerA (.call (.ref fa) ⟨[.ref a], []⟩) (fun r s' => r = .ok (.ret (.bool true)) ∧ OldK s₁.heap s'.heap ∧ s'.os = s₁.os ∧ AllBare s'.gens) s₁ := by
  have rel := vals_ints iar
  have same := iar.length
  let ts : List Addr := cs.map (·.2)
  have inTs : ∀ p ∈ cs, p.2 ∈ ts := fun p hp => List.mem_map.mpr ⟨p, hp, rfl⟩
  have tab_at : ∀ b ∈ ts, s₁.heap.get? b = some { cls := .none, data := .fields #[] } ∧ K.lookup b = none ∧ ∃ p ∈ cs, p.2 = b := fun b hb => by
    obtain ⟨p, hp, rfl⟩ := List.mem_map.mp hb
    exact ⟨tabs p hp, offT p hp, p, hp, rfl⟩
  have a_off : a ∉ ts := fun z => by
    have q := (tab_at a z).1
    rw [ob] at q
    cases congrArg (fun o => o.map Obj.data) q
  have main : ∀ H : Hp, (∀ b ∈ ts, H b = some (.tbl #[])) → (∀ b u, H b = some u → b ∈ ts ∨ (b = a ∧ ∃ o ys, u = .frz o (.lst ys))) → SqL K H a (ns.map V.int) → HOk P w H s₁.heap → (H a ≠ none → K.lookup a = none) →
      codeAny (model P w) callerA (.call (.ref fa) ⟨[.ref a], []⟩) (fun r s' => r = .ok (.ret (.bool true)) ∧ OldK s₁.heap s'.heap ∧ s'.os = s₁.os ∧ AllBare s'.gens) s₁ := by
    intro H hTb hOnly sq hk offK
    have tabH : ∀ p ∈ cs, H p.2 = some (.tbl #[]) := fun p hp => hTb _ (inTs p hp)
    -- what is tracked is the script or a table
    have free : ∀ {b : Addr} {o : Obj}, s₁.heap.get? b = some o → (∀ xs n, o.data ≠ .seq xs n) → o.data ≠ .fields #[] → H b = none := fun {b o} z n1 n2 => by
      cases y : H b with
      | none => rfl
      | some u =>
        exfalso
        rcases hOnly b u y with i | ⟨rfl, _⟩
        · rw [(tab_at b i).1] at z
          cases z
          exact n2 rfl
        · rw [ob] at z
          cases z
          exact n1 _ _ rfl
    have down : ∀ {b : Addr} {o : Obj}, s₁.heap.get? b = some o → (∀ xs n, o.data ≠ .seq xs n) → o.data ≠ .fields #[] → (hidT s₁.heap H).get? b = some o := fun {b o} z n1 n2 => hidT_get z (free z n1 n2)
    have ns_down : ∀ {b : Addr} {m : Str → Option Value}, s₁.heap.Ns b m → (hidT s₁.heap H).Ns b m := fun {b m} ⟨o, es, ep, z, d, r⟩ => ⟨o, es, ep, down z (fun xs n i => by rw [d] at i; cases i) (fun i => by rw [d] at i; cases i), d, r⟩
    have kin2 : K.In (hidT s₁.heap H) := fun b o z => by
      refine hidT_get (kin b o z) ?_
      cases y : H b with
      | none => rfl
      | some u =>
        exfalso
        rcases hOnly b u y with i | ⟨rfl, _⟩
        · rw [(tab_at b i).2.1] at z
          cases z
        · rw [offK (by rw [y]; simp)] at z
          cases z
    have md : L2.Mod K mg (hidT s₁.heap H) := by
      obtain ⟨mc, l1, l2⟩ := nlim
      exact ⟨kin2, ns_down gns, ⟨mb, ns_down bns, bbo⟩, mc, ns_down l1, l2⟩
    have tbs : ∀ p ∈ cs, TabB (hidT s₁.heap H) mg p.1 p.2 := by
      intro p hp
      have tp := tabs p hp
      constructor
      · obtain ⟨o, us, file, tf, flags, tg, inF, text, tt, g1, g2, g3, g4, g5, g6, g7, g8, g9, g10⟩ := heads p hp
        refine ⟨o, us, file, tf, flags, tg, inF, text, tt, down g1 (fun xs n i => ?_) (fun i => ?_), g2, g3, g4, g5, g6, g7, g8, g9, g10⟩
        · rw [g3] at i; cases i
        · rw [g3] at i; cases i; simp at g4
      · obtain ⟨bm, om, q1, q2, q3, q4, q5, q6⟩ := bmod
        refine ⟨bm, om, q1, q2, ?_, ?_, down q3 (fun xs n i => ?_) (fun i => ?_), q4, q5, q6⟩
        · rintro rfl
          obtain ⟨o, es, ep, z, d, _⟩ := gns
          rw [z] at q3
          cases q3
          rw [q6] at d
          cases d
        · rintro rfl
          rw [tp] at q3
          cases q3
          cases q6
        · rw [q6] at i; cases i
        · rw [q6] at i; cases i
      · intro z
        obtain ⟨o, es, ep, y, d, _⟩ := gns
        rw [z, tp] at y
        cases y
        cases d
    have env : Env0 P w K mg (hidT s₁.heap H) callerA [] s₁ H := ⟨rfl, md, fun b o z => of_hidT z, Nat.le_of_eq (hidT_size _ _), trivial, fun b z => absurd (show b ∈ ([] : List Addr) from z) (by simp), hk, .of_eq gens⟩
    refine codeAny_mono ((F _ kin2 (ns_down gns) tbs).run callerA [] s₁ H ⟨[.ref a], []⟩ [.ref a] [.ref a] _ _ room rfl env (bind s₁ (.ref a)) (.cons rfl .nil) (prom H tabH sq)) fun out s2 fin => ?_
    cases out with
    | error e => exact (show False from fin).elim
    | ok fl =>
      cases fl with
      | next => exact (show False from fin).elim
      | brk => exact (show False from fin).elim
      | cont => exact (show False from fin).elim
      | ret u =>
        obtain ⟨v, H2, eos, bare, un, hk2, rv, q⟩ := fin
        obtain rfl : v = .bl true := q
        obtain rfl : u = Value.bool true := rv
        have more : ∀ b ∈ ts, ∃ ys : Array Value, s2.heap.get? b = some { cls := .none, data := .fields ys } := fun b hb => by
          obtain ⟨ys, z⟩ := un.tbls b #[] (hTb b hb)
          exact ⟨_, hk2 b _ z⟩
        have rest : ∀ b o, b ∉ ts → s₁.heap.get? b = some o → s2.heap.get? b = some o := fun b o nb z => by
          cases y : H b with
          | none => exact un.keep b o z y (fun i => absurd (show b ∈ ([] : List Addr) from i) (by simp)) (by simp)
          | some t =>
            rcases hOnly b t y with i | ⟨_, o2, ys, rfl⟩
            · exact absurd i nb
            · obtain ⟨g1, _⟩ := hk b _ y
              obtain ⟨g2, _⟩ := hk2 b _ (un.frzs b o2 _ y)
              rw [z] at g1
              cases g1
              exact g2
        refine ⟨rfl, ⟨fun b o z => ?_, fun b o z => ?_⟩, eos, bare⟩
        · by_cases i : b ∈ ts
          · obtain ⟨e1, _, p, hp, rfl⟩ := tab_at b i
            obtain ⟨ys, e2⟩ := more _ i
            rw [e1] at z
            cases z
            exact .inr (.inl ⟨((heads p hp).tab e1).isCodeTable, rfl, #[], ys, rfl, by rw [Array.empty_append]; exact e2⟩)
          · exact .inl (rest b o i z)
        · by_cases i : b ∈ ts
          · obtain ⟨ys, e2⟩ := more b i
            exact ⟨_, e2⟩
          · exact ⟨o, rest b o i z⟩
  cases lk : K.lookup a with
  | some o =>
    have z := kin a o lk
    rw [ob] at z
    cases z
    obtain ⟨H0, at_t, off⟩ : ∃ H0 : Hp, (∀ b ∈ ts, H0 b = some (.tbl #[])) ∧ ∀ b, b ∉ ts → H0 b = none := ⟨fun b => if b ∈ ts then some (.tbl #[]) else none, fun b i => if_pos i, fun b i => if_neg i⟩
    refine main H0 at_t (fun b u z => ?_) (.inr ⟨_, vs.toArray, _, lk, rfl, rfl, rfl, by rw [List.size_toArray, same]; exact small, by simpa using rel⟩) (fun b u z => ?_) fun z => absurd (off a a_off) z
    · by_cases i : b ∈ ts
      · exact .inl i
      · rw [off b i] at z; cases z
    · by_cases i : b ∈ ts
      · rw [at_t b i] at z
        cases z
        exact (tab_at b i).1
      · rw [off b i] at z; cases z
  | none =>
    obtain ⟨H0, at_a, at_t, off⟩ : ∃ H0 : Hp, H0 a = some (.frz { cls := .type "list", data := .seq vs.toArray } (.lst (ns.map V.int))) ∧ (∀ b ∈ ts, H0 b = some (.tbl #[])) ∧ ∀ b, b ≠ a → b ∉ ts → H0 b = none := by
      refine ⟨fun b => if b ∈ ts then some (.tbl #[]) else if b = a then some (.frz { cls := .type "list", data := .seq vs.toArray } (.lst (ns.map V.int))) else none, ?_, fun b i => if_pos i, fun b i j => ?_⟩
      · show (if a ∈ ts then _ else _) = _
        rw [if_neg a_off, if_pos rfl]
      · show (if b ∈ ts then _ else _) = _
        rw [if_neg j, if_neg i]
    refine main H0 at_t (fun b u z => ?_) (.inl (.inr ⟨_, at_a⟩)) (fun b u z => ?_) fun _ => lk
    · by_cases i : b ∈ ts
      · exact .inl i
      · by_cases e : b = a
        · subst e
          rw [at_a] at z
          cases z
          exact .inr ⟨rfl, _, _, rfl⟩
        · rw [off b e i] at z; cases z
    · by_cases i : b ∈ ts
      · rw [at_t b i] at z
        cases z
        exact (tab_at b i).1
      · by_cases e : b = a
        · subst e
          rw [at_a] at z
          cases z
          exact ⟨ob, by rw [List.length_map]; exact small, vs, _, rel, ob⟩
        · rw [off b e i] at z; cases z
theorem walkGT {l : PySem.W.OpenLaw} {n k : Nat} {q : Program} {loose : List Str} {XP : (Str → Option Value) → Heap → Prop} {YP : World → Heap → Prop} {d : DefRec} {x : Str}
    (most : l.most = some n) (le : n ≤ sizeLine) (nodf : d.params.defaults = []) (room : Room k callerA)
    (F : ∀ (w : World) (mg : Str → Option Value) (fa : Addr) (h : Heap), YP w h → h.Ns mainGlobals mg → mg d.name = some (.ref fa) →
      ∃ (K : PySem.W.Frag) (fd : FuncData) (sp : Sp) (cs : List (Addr × Addr)), K.In h ∧ (∀ p ∈ cs, h.get? p.2 = some { cls := .none, data := .fields #[] }) ∧ (∀ p ∈ cs, K.lookup p.2 = none) ∧ (∀ p ∈ cs, PySem.W.CodeHd h p.1 p.2) ∧ (∀ (s : Shared) (u : Value), BindsTo s fd ⟨[u], []⟩ [(x, u)]) ∧
        (∀ (H : Hp) (a : Addr) (ns : List Int), ns.length ≤ n → (∀ p ∈ cs, H p.2 = some (.tbl #[])) → SqL K H a (ns.map V.int) → sp [.ref a] H (fun v _ => v = .bl true) fun _ _ _ => False) ∧
        ∀ base : Heap, K.In base → base.Ns mainGlobals mg → (∀ p ∈ cs, TabB base mg p.1 p.2) → FnG l.prog w K mg base k fa fd [x] sp) :
    PySem.W.WalkO q loose XP YP l.row.toRowW d [] (fun f vs => PySem.call f vs) := by
  refine Att.attach_call most nodf fun w s0 s1 mg mb fa o pm cd doc a vs ns G Y _ _ _ named obj iar len gens => ?_
  obtain ⟨K, fd, sp, cs, kin, e1, e2, e3, bind, prom, ok⟩ := F w mg fa _ Y G.T.g named
  exact lawGT kin G.T.g G.T.b G.T.builtins G.T.nolimit gens e1 e2 e3 G.T.bmain obj iar (Nat.le_trans len le) room ok bind fun H tb sq => prom H a ns len tb sq
end L2G
set_option maxHeartbeats 1000000
namespace DL
open PySem PySem.Spec PyProof.Rows L2 LamX
open PySem.W (Frag)
def LwC (c : C) (T : List (Addr × PySem.Str)) : Prop := (∃ m, c.M = some m ∧ m.T = T) ∧ NoTs c.H0
structure InT (T : List (Addr × PySem.Str)) (Pt : Addr) (q : PySem.Str) : Prop where
  mem : (Pt, q) ∈ T
  uni : ∀ p ∈ T, p.1 = Pt → p.2 = q
end DL
namespace L2G
open PySem PySem.Spec PyProof.Rows L2
theorem okGT {P : Program} {w : World} {K : PySem.W.Frag} {mg : Str → Option Value} {base : Heap} {x qual : Str} {st : Stmt} {p : Str × Option Str} {fd : FuncData} {N ps : List Str} {k : Nat} {sp : Sp} (F : Fun K x qual st (He.fAd K p) fd) (S : FnScope N ps (defScope st)) (ln : ∀ vs H Q E, sp vs H Q E → vs.length = ps.length)
    (bd : ∀ (cdv : Value) (A : Around) (ou : List Env) (s : Shared) (H : Hp) (vs : List V) (Q : VK) (E : XK), cdv = .ref (He.codeOf K p) → Room k (A.deeper (envOfC qual (defScope st) s.heap.objs.size (He.fAd K p) cdv)) → (A.deeper (envOfC qual (defScope st) s.heap.objs.size (He.fAd K p) cdv)).guards = some [] → sp vs H Q E →
      ∃ t, PSs (cxOf CX0 P w K mg base N qual (defScope st) (He.fAd K p) cdv A ou s H E).nox (defBody st) t ∧ t { nx := fun _ H' => Q .non H', rt := Q } (L2.start N vs) H) : FnG P w K mg base (k + 1) (He.fAd K p) fd ps sp := by
  obtain ⟨oc, od, kV, doc, pm, an, cdv, ct, osl, rfl, lk, cdok⟩ := F.ex
  obtain ⟨cc, rfl⟩ := He.codeIn_ref cdok
  have ecc : He.codeOf K p = cc := He.codeOf_eq lk rfl
  refine ⟨ln, fun A ou s H ar us vs Q E room gu en bi rv hs => ?_⟩
  have lv := ln _ _ _ _ hs
  have inK : K.In s.heap := en.mod.kin.keeps fun a u z => (en.bs a u z).1
  have nlim : s.heap.NoLimit := en.mod.nolimit.keeps fun a u z => (en.bs a u z).1
  have kinds : ∀ y ∈ ps.zip us, (defScope st).names.lookup y.1 = some .local ∨ ((defScope st).names.lookup y.1 = some .cell ∧ ((cellsFrom (s.heap.objs.size + 1) (defScope st).names []).lookup y.1).isSome = true) := by
    rintro ⟨nm, vl⟩ hy
    exact (S.par nm (List.of_mem_zip hy).1).imp id fun z => ⟨z, PySem.W.cellsFrom_some _ _ _ (.inl z)⟩
  refine codeAny_call_function room.depth (inK _ _ lk) rfl S.co S.gen rfl (PySem.W.codeRec_of inK cdok) (bi _ _ _ _ ?_)
  refine wpAny_newFunctionEnv_cells S.kind kinds fun env same s1 ic => ?_
  subst same
  refine ⟨nlim.keeps ic.toInCall.keep, codeAny_func ?_⟩
  obtain ⟨t, walk, ends⟩ := bd (.ref cc) A ou s H vs Q E (by rw [ecc]) (room.deeper _) gu hs
  have I0 := inv_start (CX := CX0) (E := E) S room.hd en lv rv ic
  refine wpAny_mono (walk.nox.run [] s1 (L2.start N vs) H _ I0 ends) (fun fl s2 hfl => ?_) fun _ _ z => z
  cases fl with
  | ret u =>
    obtain ⟨v, τ, H2, J, r2, q2⟩ := hfl
    exact ⟨v, H2, J.os, J.bare, J.base, J.hok, r2, q2⟩
  | next =>
    obtain ⟨τ, H2, J, q2⟩ := hfl
    exact ⟨V.non, H2, J.os, J.bare, J.base, J.hok, rfl, q2⟩
  | brk =>
    obtain ⟨_, _, _, q2⟩ := hfl
    exact q2.elim
  | cont =>
    obtain ⟨_, _, _, q2⟩ := hfl
    exact q2.elim
end L2G
set_option maxHeartbeats 1000000
set_option maxHeartbeats 1000000
namespace BW
open PySem L2 DL
def bk (w : List Int) : Deed → Deed
  | .inn k _ => .out k
  | .out k => .inn k (w.getD k 0)
  | .turn k => .turn k
end BW
set_option maxHeartbeats 1000000
namespace DL
open PySem L2
open PySem.W (Frag)
section
variable {P : Program} {w : World} {K : Frag} {mg : PySem.Str → Option Value} {base : Heap} {k : Nat} {f : Addr} {fd : FuncData} {ps : List PySem.Str} {hm : Bool} {sp : DSp} {spX : DSpX} {x : PySem.Str}
theorem calm_ok (F : FnOk P w K mg base (L2.CX P w) k f fd ps (spDX K hm spX)) (h : ∀ ds k R, sp ds k R → spX ds k R (fun _ _ => False)) : FnOk P w K mg base CX0 k f fd ps (spD K hm sp) := by
  have key : ∀ vs H Q E, spD K hm sp vs H Q E → spDX K hm spX vs H Q (fun _ _ _ => False) := fun vs H Q E ⟨M, X0, k, ds, ws, R, h1, a, h2, h3⟩ => ⟨M, X0, k, ds, ws, R, fun _ _ => False, h1, a, h _ _ _ h2, h3, fun _ _ q => q.elim⟩
  refine ⟨fun vs H Q E q => F.len _ _ _ _ (key _ _ _ _ q), fun A outer s H args us vs Q E hr he hb hv hs => ?_⟩
  refine codeAny_mono (F.run A outer s H args us vs Q _ hr he hb hv (key _ _ _ _ hs)) fun r s' q => ?_
  cases r with
  | ok o => cases o <;> exact q
  | error e =>
    obtain ⟨_, _, _, _, _, _, _, _, _, _, _, _, z⟩ := (show L2.CX P w outer H s (fun _ _ _ => False) e s' from q)
    exact z.elim
theorem CalX.calm (F : CalX P w K mg base k x spX) (h : ∀ ds k R, sp ds k R → spX ds k R (fun _ _ => False)) : CalD P w K mg base k x false sp := by
  obtain ⟨f, fd, ps, G, hm, kp, b⟩ := F.ex
  exact ⟨f, fd, ps, calm_ok G h, hm, kp, b⟩
end
end DL
namespace BW
open PySem L2 DL
def fm (n : Nat) (f : Nat → Nat → Int) : Mat := (List.range n).map fun i => (List.range n).map fun j => f i j
theorem fm_len (n : Nat) (f : Nat → Nat → Int) : (fm n f).length = n := by unfold fm; rw [List.length_map, List.length_range]
theorem fm_row {n : Nat} {f : Nat → Nat → Int} {i : Nat} (h : i < n) : (fm n f).getD i [] = (List.range n).map fun j => f i j := by unfold fm; rw [getD_range h]
theorem fm_at {n : Nat} {f : Nat → Nat → Int} {i j : Nat} (hi : i < n) (hj : j < n) : at2 (fm n f) i j = f i j := by
  unfold at2
  rw [fm_row hi, getD_range hj]
def fsw (f : Nat → Nat → Int) (a b : Nat) (v : Int) : Nat → Nat → Int := fun i j => if (i = a ∧ j = b) ∨ (i = b ∧ j = a) then v else f i j
theorem fm_sw {n : Nat} {f : Nat → Nat → Int} {a b : Nat} {v : Int} (ha : a < n) (hb : b < n) (ne : a ≠ b) : ((fm n f).set a (((fm n f).getD a []).set b v)).set b (((fm n f).getD b []).set a v) = fm n (fsw f a b v) := by
  have r1 : ((fm n f).getD a []).set b v = (List.range n).map fun j => fsw f a b v a j := by
    rw [fm_row ha]
    refine set_range fun j hj => ?_
    unfold fsw
    by_cases e : j = b
    · rw [if_pos e, if_pos (.inl ⟨rfl, e⟩)]
    · rw [if_neg e, if_neg (by omega)]
  have r2 : ((fm n f).getD b []).set a v = (List.range n).map fun j => fsw f a b v b j := by
    rw [fm_row hb]
    refine set_range fun j hj => ?_
    unfold fsw
    by_cases e : j = a
    · rw [if_pos e, if_pos (.inr ⟨rfl, e⟩)]
    · rw [if_neg e, if_neg (by omega)]
  rw [r1, r2]
  show (((List.range n).map fun i => (List.range n).map fun j => f i j).set a _).set b _ = _
  rw [set_range (g' := fun i => if i = a then (List.range n).map (fun j => fsw f a b v a j) else (List.range n).map (fun j => f i j)) (fun j _ => rfl)]
  refine set_range fun i hi => ?_
  by_cases e : i = b
  · rw [if_pos e, e]
  · rw [if_neg e]
    by_cases e2 : i = a
    · rw [if_pos e2, e2]
    · rw [if_neg e2]
      refine List.map_congr_left fun j hj => ?_
      unfold fsw
      rw [if_neg (by omega)]
structure S8 (m : Mc) (n : Nat) (way : Int) (p : Addr) (σ : L2.St) : Prop where
  len : σ.length = 8
  e0 : σ[0]? = some (some (.ref m.pm))
  e2 : σ[2]? = some (some (.int n))
  e3 : σ[3]? = some (some (.int way))
  e4 : σ[4]? = some (some (.ref p))
theorem S8.set {m : Mc} {n : Nat} {way : Int} {p : Addr} {σ : L2.St} (h : S8 m n way p σ) {i : Nat} (hi : 5 ≤ i) (v : Option V) : S8 m n way p (σ.set i v) :=
  ⟨by rw [List.length_set]; exact h.len, by rw [List.getElem?_set_ne (by omega)]; exact h.e0, by rw [List.getElem?_set_ne (by omega)]; exact h.e2, by rw [List.getElem?_set_ne (by omega)]; exact h.e3, by rw [List.getElem?_set_ne (by omega)]; exact h.e4⟩
end BW
set_option maxHeartbeats 1000000
namespace BW
open PySem L2 DL
abbrev badWord (d : D) : D := .exc "BadWord" ["place"] [d]
abbrev tooGreat (z : Int) : D := .exc "TooGreat" ["most"] [.int z]
def BadW (n : Nat) (d x : D) : Prop :=
  (d.items = none ∧ d.tname.isSome = true ∧ x = badWord .non) ∨
  (∃ xs, d.items = some xs ∧ 60 < xs.length ∧ x = tooGreat 60) ∨
  ∃ pre y post, d.items = some (pre ++ y :: post) ∧ (pre ++ y :: post).length ≤ 60 ∧ (∀ z ∈ pre, z.tname.isSome = true ∧ D.isL n z = true) ∧ y.tname.isSome = true ∧ D.isL n y = false ∧ x = badWord (.int pre.length)
end BW
set_option maxHeartbeats 1000000
namespace L2
open PySem PySem.Spec PyProof.Rows HT
end L2
namespace DL
open PySem L2
open PySem.W (Frag)
abbrev dStar (t : DE) (u : DA) : DA := fun s Q => t s fun d k => ∃ ds, d.items = some ds ∧ u (s.at k) fun es k' => Q (ds ++ es) k'
section
variable {X : Cx} {c : C}
theorem pad_star (hK : c.K = X.K) {e : Expr} {es : List Expr} {p : Pos} {t : DE} {u : DA} (ha : PE X e (LE c t)) (hr : PA X es (LA c u)) (hs : starEach (.Starred e p :: es) X.env = (true, eval e X.env) :: starEach es X.env := by rfl) : PA X (.Starred e p :: es) (LA c (dStar t u)) :=
  (StX.pa_star ha hr hs).weak fun σ H Q ⟨s, R, rp, q, f⟩ => by
    refine ⟨s, _, rp, q, fun d k ⟨ds, hd, hu⟩ v H1 r1 a1 e1 => ?_⟩
    obtain ⟨a, vs, rfl, h, r⟩ := e1.items hd
    refine ⟨a, vs, rfl, ?_, s.at k, _, r1, hu, fun es k2 h2 us H2 r2 a2 e2 => f _ k2 h2 _ H2 r2 (a1.trans a2) ((r.mono a2.sub).app e2)⟩
    have z := sq_all (wo_sub _ _) h
    exact (hK ▸ z).symm
end
end DL
set_option maxHeartbeats 1000000
set_option maxHeartbeats 1000000
set_option maxHeartbeats 1000000
namespace BW
open PySem L2 DL
theorem drop_at {α : Type} {xs : List α} {i : Nat} {x : α} (h : xs[i]? = some x) : xs.drop i = x :: xs.drop (i + 1) := by
  obtain ⟨hi, e⟩ := List.getElem?_eq_some_iff.mp h
  rw [List.drop_eq_getElem_cons hi, e]
end BW
set_option maxHeartbeats 1000000
set_option maxHeartbeats 1000000
namespace BW
open PySem L2 DL
open PySem.W (Frag)
theorem tupIs_ok {K : Frag} {v : Value} {ns : List Int} (h : tupIs K v ns = true) : ∃ b, v = .ref b ∧ ∀ H, SqT K H b (ns.map V.int) := by
  cases v with
  | ref b =>
    refine ⟨b, rfl, fun H => ?_⟩
    unfold tupIs at h
    cases q : K.lookup b with
    | none => simp only [q] at h; cases h
    | some o =>
      obtain ⟨oc, od, dt, osl⟩ := o
      simp only [q] at h
      cases oc with
      | type c =>
        cases dt with
        | seq its n =>
          obtain ⟨h1, h2⟩ := Bool.and_eq_true_iff.mp (show (decide (c = "tuple") && (decide (its.size ≤ sizeLine) && He.relAll (ns.map V.int) its.toList)) = true from h)
          obtain ⟨h3, h4⟩ := Bool.and_eq_true_iff.mp h2
          exact .inr ⟨_, its, n, q, congrArg Value.type (of_decide_eq_true h1), rfl, of_decide_eq_true h3, He.relAll_ok h4⟩
        | _ => cases h
      | _ => cases dt <;> cases h
  | _ => cases h
theorem entB_ok {P : Program} {w : World} {K : Frag} : ∀ {es : List DictEntry} {kvs : List (Int × List Int)}, entB K es kvs = true →
    (∀ e ∈ es, ∃ k, (intKind P w).is k e.key = true ∧ e.hash = (intKind P w).hash k) ∧
    ∃ (us : List (Int × Value)) (vs : List (Int × V)), Pairs (intKind P w) es us ∧ us.map (·.1) = kvs.map (·.1) ∧ KV vs us ∧ ∀ H, KvA K H vs (kvs.map fun q => (q.1, tI q.2))
  | [], [], _ => ⟨fun _ h => (nomatch h), [], [], .nil, rfl, .nil, fun _ => .nil⟩
  | [], _ :: _, h => by cases h
  | _ :: _, [], h => by cases h
  | e :: es, (k, ns) :: r, h => by
    obtain ⟨h1, h2⟩ := Bool.and_eq_true_iff.mp (show ((match e.key with | .int j _ => decide (j = k) && decide (e.hash = hashInt k) | _ => false) && (tupIs K e.val ns && entB K es r)) = true from h)
    obtain ⟨h3, h4⟩ := Bool.and_eq_true_iff.mp h2
    obtain ⟨ih1, us, vs, ih2, ih3, ih4, ih5⟩ := entB_ok (P := P) (w := w) h4
    obtain ⟨b, hb, hs⟩ := tupIs_ok h3
    have key : (intKind P w).is k e.key = true ∧ e.hash = (intKind P w).hash k := by
      cases q : e.key with
      | int j t =>
        rw [q] at h1
        obtain ⟨h5, h6⟩ := Bool.and_eq_true_iff.mp (show (decide (j = k) && decide (e.hash = hashInt k)) = true from h1)
        have h5 := of_decide_eq_true h5
        subst h5
        exact ⟨by simp [intKind, Value.isInt], of_decide_eq_true h6⟩
      | _ => rw [q] at h1; cases h1
    refine ⟨fun x hx => ?_, (k, .ref b) :: us, (k, .ref b) :: vs, ?_, by rw [List.map_cons, List.map_cons, ih3], .cons ⟨rfl, rfl⟩ ih4, fun H => .cons (.tup (hs H) (RlA.ints ns)) (ih5 H)⟩
    · rcases List.mem_cons.mp hx with rfl | hx
      · exact ⟨k, key⟩
      · exact ih1 x hx
    · rw [← hb]
      exact .cons key.1 rfl ih2
theorem kdB_ok {P : Program} {w : World} {K : Frag} {mg : PySem.Str → Option Value} {x : PySem.Str} {kvs : List (Int × List Int)} (h : kdB K x kvs = true) (hm : mg x = some (.ref (He.ga K x))) (nd : (kvs.map (·.1)).Nodup) : KdAt P w K mg x (kvs.map fun q => (q.1, tI q.2)) := by
  unfold kdB at h
  cases q : K.lookup (He.ga K x) with
  | none => simp only [q] at h; cases h
  | some o =>
    obtain ⟨oc, od, dt, osl⟩ := o
    simp only [q] at h
    cases oc with
    | type c =>
      cases od with
      | none =>
        cases dt with
        | dict es n =>
          obtain ⟨h1, h2⟩ := Bool.and_eq_true_iff.mp (show (decide (c = "dict") && (osl.isEmpty && (!(He.ga K x == sysModules) && entB K es.toList kvs))) = true from h)
          obtain ⟨h3, h4⟩ := Bool.and_eq_true_iff.mp h2
          obtain ⟨h5, h6⟩ := Bool.and_eq_true_iff.mp h4
          obtain ⟨k1, us, vs, k2, k3, k4, k5⟩ := entB_ok (P := P) (w := w) h6
          have e1 : c = "dict" := of_decide_eq_true h1
          subst e1
          refine ⟨_, us, vs, hm, by simpa using h5, fun hp hK => ⟨_, es, n, hK _ _ q, ⟨rfl, rfl, Array.isEmpty_iff.mp h3⟩, rfl, fun e he => k1 e (by simpa using he), k2, by rw [k3]; exact nd⟩, k4, k5⟩
        | _ => cases h
      | some b => cases dt <;> cases h
    | _ => cases od <;> cases dt <;> cases h
end BW
set_option maxHeartbeats 1000000
namespace BW
open PySem L2 DL
open PySem.W (Frag)
theorem Rep.root {c : C} {s : S} {σ : L2.St} {H : Hp} {ow : List Nat} (r : Rep c s σ H) (h : c.X0 = []) : Rep ⟨c.K, c.M, [], fun _ => none, ow⟩ s σ H := by
  refine ⟨fun a o e => ?_, fun a ha => (nomatch ha), fun a ha => (nomatch ha), r.xm, r.xs, r.m, fun i x e => ?_, r.apart, r.len, tbk_none (fun _ _ z => nomatch z), r.xt⟩
  · have := (wo_all e).2.1
    cases this
  · have q := r.slot i x e
    cases x with
    | own p ds =>
      obtain ⟨e', h1, h2, h3, vs, h4, h5⟩ := q
      exact ⟨e', h1, fun z => (nomatch z), rfl, vs, h4, h5⟩
    | no => exact q
    | dat d => exact q
    | mst => exact q
    | scr ns => exact q
end BW
set_option maxHeartbeats 1000000
set_option autoImplicit false
namespace DL
open PySem PySem.Spec PyProof.Rows L2
open PySem.W (Frag)
end DL
set_option autoImplicit false
set_option maxHeartbeats 1000000
namespace BW
open PySem L2 DL
def TpB (T : Mat) (w v : List Int) : Prop := row T w = row T v ∧ (wd T 60 (row T w)).1.length = w.length ∧ (wd T 60 (row T v)).1.length = v.length
theorem sh_iff {T : Mat} (ht : Tab T) {w : List Int} (hw : Wd T.length w) (hl : w.length ≤ 60) : (wd T 60 (row T w)).1.length = w.length ↔ Sh T w := by
  obtain ⟨k, h, hk⟩ := LN.has hw
  have e := len60 ht hw h (by omega)
  rw [e]
  constructor
  · intro z
    show LN T w w.length
    rw [← z]; exact h
  · exact fun z => h.uniq z
theorem Tp.b {T : Mat} (ht : Tab T) {w v : List Int} (hl : w.length ≤ 60) (hm : v.length ≤ 60) (h : Tp T w v) : TpB T w v := ⟨h.al, (sh_iff ht h.hw hl).mpr h.sw, (sh_iff ht h.hv hm).mpr h.sv⟩
end BW
set_option maxHeartbeats 1000000
namespace BW
open PySem L2 DL
theorem Tp.symm {T : Mat} {w v : List Int} (h : Tp T w v) : Tp T v w := ⟨h.hv, h.hw, h.sv, h.sw, h.al.symm⟩
theorem Tp.refl {T : Mat} {w : List Int} (hw : Wd T.length w) (hs : Sh T w) : Tp T w w := ⟨hw, hw, hs, hs, rfl⟩
theorem Tp.turn {T : Mat} (ht : Tab T) {w v u : List Int} {k : Nat} (h : Tp T w v) (hm : mv T v (.turn k) = some u) : Tp T w u := by
  have wu : Wd T.length u := mv_wd (e := .turn k) h.hv trivial hm
  have ru : row T u = row T v := mv_row ht (e := .turn k) h.hv trivial hm
  have lu := Ws.all.mv_turn_len0 hm
  refine ⟨h.hw, wu, h.sw, ?_, h.al.trans ru.symm⟩
  show LN T u u.length
  rw [lu]
  exact h.sv.cong h.hv wu ru.symm
end BW
namespace PySem
end PySem
namespace L2
open PySem
open PyProof.Rows (IntsAre)
end L2
namespace DL
open PySem L2
open PySem.W (Frag)
abbrev dAny (t : DE) : DE := fun s Q => t s fun d k => ∃ bs : List Bool, d = .lst (bs.map .bl) ∧ Q (.bl (bs.any id)) k
section
variable {X : Cx} {c : C} {p pos : Pos}
theorem pd_any (hK : c.K = X.K) (hm : X.mg "any" = none) (hc : X.calm = true) {e : Expr} {t : DE} (h : PE X e (LE c t)) (hg : Gl X "any" := by rfl) (hs : starEach [e] X.env = (false, eval e X.env) :: starEach [] X.env := by rfl) (hp : (backTo pos (starEach [] X.env)).any (·.1) = false := by rfl) :
    PE X (.Call (.Name "any" p) [e] [] pos) (LE c (dAny t)) :=
  (pe_callB (cr_any hc) hg hm (by first | exact PySem.boot_any | exact PyProof.Rows.boot_any | rfl) (pa_cons h pa_nil hs) (he := hs) (hpl := hp)).weak fun σ H Q ⟨s, R, rp, q, f⟩ => ⟨s, _, rp, q, fun d k ⟨bs, h1, h2⟩ v H1 r1 a1 e1 => by
    subst h1
    obtain ⟨a, vs, rfl, h, r⟩ := e1.lstE
    obtain rfl := r.bls_v
    exact ⟨a, bs, rfl, hK ▸ SqL.of (wo_sub _ _ _ _ h), f _ k h2 _ H1 r1 a1 (.bl _)⟩⟩
end
end DL
set_option maxHeartbeats 1000000
set_option maxHeartbeats 1000000
set_option maxHeartbeats 1000000
namespace BW
open PySem L2 DL
def Rn (T : Mat) : List Int → List Deed → List Int → Prop
  | w, [], v => v = w
  | w, e :: r, v => ∃ u, e.fits T.length w.length ∧ mv T w e = some u ∧ (e.isIn = true → w.length + 2 ≤ 30) ∧ Rn T u r v
theorem Rn.snoc {T : Mat} : ∀ {es : List Deed} {w v u : List Int} {e : Deed}, Rn T w es v → e.fits T.length v.length → mv T v e = some u → (e.isIn = true → v.length + 2 ≤ 30) → Rn T w (es ++ [e]) u
  | [], w, v, u, e, h, h1, h2, h3 => by
    have h : v = w := h
    subst h
    exact ⟨u, h1, h2, h3, rfl⟩
  | _ :: r, w, v, u, e, ⟨x, a, b, c, d⟩, h1, h2, h3 => ⟨x, a, b, c, Rn.snoc d h1 h2 h3⟩
theorem Rn.wd {T : Mat} : ∀ {es : List Deed} {w v : List Int}, Rn T w es v → Wd T.length w → Wd T.length v
  | [], w, v, h, hw => by
    have h : v = w := h
    subst h
    exact hw
  | e :: r, w, v, ⟨x, h1, h2, h3, h4⟩, hw => Rn.wd h4 (mv_wd hw h1 h2)
end BW
set_option maxHeartbeats 1000000
namespace BW
open PySem L2 DL
theorem two_cut {w : List Int} {k m : Nat} : w = w.take k ++ (w.drop k).take m ++ w.drop (k + m) := by
  have h : w.drop (k + m) = (w.drop k).drop m := by rw [List.drop_drop]
  rw [h, List.append_assoc, List.take_append_drop, List.take_append_drop]
theorem mv_back {T : Mat} (ht : Tab T) {w v : List Int} {e : Deed} (hw : Wd T.length w) (he : e.fits T.length w.length) (h : mv T w e = some v) : (bk w e).fits T.length v.length ∧ mv T v (bk w e) = some w := by
  cases e with
  | inn k a =>
    have hk : k ≤ w.length := he.1
    have e1 : v = w.take k ++ [a, a] ++ w.drop k := by cases h; rfl
    have l1 : (w.take k).length = k := by rw [List.length_take]; omega
    have e2 : v = w.take k ++ (a :: a :: w.drop k) := by rw [e1, List.append_assoc]; rfl
    have g0 : v.getD k 0 = a := by
      rw [e2, List.getD_eq_getElem?_getD, List.getElem?_append_right (by omega), l1, Nat.sub_self]; rfl
    have g1 : v.getD (k + 1) 0 = a := by
      rw [e2, List.getD_eq_getElem?_getD, List.getElem?_append_right (by omega), l1, show k + 1 - k = 1 by omega]; rfl
    refine ⟨trivial, ?_⟩
    show mv T v (.out k) = some w
    have lv : v.length = w.length + 2 := by rw [e2, List.length_append, l1, List.length_cons, List.length_cons, List.length_drop]; omega
    rw [mv_out, g0, g1, if_pos ⟨by omega, rfl⟩]
    have t1 : v.take k = w.take k := by rw [e2, List.take_left' l1]
    have d1 : v.drop (k + 2) = w.drop k := by
      have e3 : v = (w.take k ++ [a, a]) ++ w.drop k := e1
      rw [e3, List.drop_left' (by rw [List.length_append, l1]; rfl)]
    rw [t1, d1, List.take_append_drop]
  | out k =>
    rw [mv_out] at h
    split at h
    case isFalse => cases h
    rename_i c
    cases h
    obtain ⟨c1, c2⟩ := c
    have l1 : (w.take k).length = k := by rw [List.length_take]; omega
    have ga : w[k]? = some (w.getD k 0) := by rw [List.getD_eq_getElem?_getD, List.getElem?_eq_getElem (by omega)]; rfl
    have gb : w[k + 1]? = some (w.getD k 0) := by rw [c2, List.getD_eq_getElem?_getD, List.getElem?_eq_getElem c1]; rfl
    have wa := hw (w.getD k 0) (List.mem_of_getElem? ga)
    refine ⟨⟨by rw [List.length_append, l1]; omega, wa.1, wa.2⟩, ?_⟩
    show some (((w.take k ++ w.drop (k + 2)).take k ++ [w.getD k 0, w.getD k 0]) ++ (w.take k ++ w.drop (k + 2)).drop k) = some w
    rw [List.take_left' l1, List.drop_left' l1]
    congr 1
    have e3 : w.drop k = w.getD k 0 :: w.getD k 0 :: w.drop (k + 2) := by
      have q1 := drop_at ga
      have q2 := drop_at gb
      rw [q1, q2]
    have e4 := List.take_append_drop k w
    rw [e3] at e4
    rw [List.append_assoc]
    exact e4
  | turn k =>
    refine ⟨trivial, ?_⟩
    show mv T v (.turn k) = some w
    rw [mv_turn] at h
    split at h
    case isFalse => cases h
    rename_i c
    split at h
    case isFalse => cases h
    rename_i c2
    cases h
    have ga : w[k]? = some (w.getD k 0) := by rw [List.getD_eq_getElem?_getD, List.getElem?_eq_getElem (by omega)]; rfl
    have gb : w[k + 1]? = some (w.getD (k + 1) 0) := by rw [List.getD_eq_getElem?_getD, List.getElem?_eq_getElem c.1]; rfl
    have wa := hw _ (List.mem_of_getElem? ga)
    have wb := hw _ (List.mem_of_getElem? gb)
    obtain ⟨i, ei⟩ : ∃ i : Nat, w.getD k 0 = (i : Int) + 1 := ⟨(w.getD k 0 - 1).toNat, by omega⟩
    obtain ⟨j, ej⟩ : ∃ j : Nat, w.getD (k + 1) 0 = (j : Int) + 1 := ⟨(w.getD (k + 1) 0 - 1).toNat, by omega⟩
    rw [ei, ej] at c c2 ⊢
    rw [ei] at wa
    rw [ej] at wb
    have hi : i < T.length := by omega
    have hj : j < T.length := by omega
    have nij : i ≠ j := fun z => c.2 (by rw [z])
    rw [ix_succ, ix_succ] at c2 ⊢
    have l1 : (w.take k).length = k := by rw [List.length_take]; omega
    have q := turn_at ht (h := w.take k) hj hi (fun z => nij z.symm) (by rw [← ht.sy i j hi hj]; have := c2.1; omega)
    rw [← ht.sy i j hi hj, l1] at q
    have q := mv_suf (z := w.drop (k + (at2 T i j).toNat)) q
    rw [q, ← c2.2]
    exact congrArg some two_cut.symm
def bks (T : Mat) : List Int → List Deed → List Deed
  | _, [] => []
  | w, e :: r => bk w e :: bks T ((mv T w e).getD w) r
def Ld (T : Mat) : List Int → List Deed → List Int → Prop
  | w, [], v => v = w
  | w, e :: r, v => ∃ u, e.fits T.length w.length ∧ mv T w e = some u ∧ u.length ≤ 60 ∧ Ld T u r v
theorem Ld.app {T : Mat} : ∀ {es fs : List Deed} {w u v : List Int}, Ld T w es u → Ld T u fs v → Ld T w (es ++ fs) v
  | [], fs, w, u, v, h, g => by
    have h : u = w := h
    subst h
    exact g
  | e :: r, fs, w, u, v, ⟨x, a, b, c, d⟩, g => ⟨x, a, b, c, Ld.app d g⟩
theorem Rn.back {T : Mat} (ht : Tab T) : ∀ {es : List Deed} {w v : List Int}, Wd T.length w → w.length ≤ 60 → Rn T w es v → Ld T v (bks T w es).reverse w
  | [], w, v, hw, hl, h => by
    have h : v = w := h
    subst h
    rfl
  | e :: r, w, v, hw, hl, ⟨x, h1, h2, h3, h4⟩ => by
    have lx := mv_len h2
    have lx2 : x.length ≤ 60 := by
      by_cases c : e.isIn = true
      · rw [if_pos c] at lx
        have := h3 c
        omega
      · rw [if_neg c] at lx
        omega
    have q := Rn.back ht (mv_wd hw h1 h2) lx2 h4
    have b := mv_back ht hw h1 h2
    show Ld T v (bk w e :: bks T ((mv T w e).getD w) r).reverse w
    rw [h2]
    show Ld T v (bk w e :: bks T x r).reverse w
    rw [List.reverse_cons]
    exact q.app ⟨w, b.1, b.2, hl, rfl⟩
end BW
set_option maxHeartbeats 1000000
set_option autoImplicit false
namespace BW
open PySem L2 DL
theorem Ld.wd {T : Mat} : ∀ {es : List Deed} {w v : List Int}, Ld T w es v → Wd T.length w → w.length ≤ 60 → Wd T.length v ∧ v.length ≤ 60
  | [], w, v, h, hw, hl => by
    have h : v = w := h
    subst h
    exact ⟨hw, hl⟩
  | e :: r, w, v, ⟨x, h1, h2, h3, h4⟩, hw, hl => Ld.wd h4 (mv_wd hw h1 h2) h3
end BW
set_option maxHeartbeats 1000000
namespace DL
open PySem PySem.Spec PyProof.Rows L2
end DL
set_option maxHeartbeats 1000000
set_option autoImplicit false
namespace BW
open PySem L2 DL
theorem isW.items {d : D} {w : List Int} (h : isW d w) : d.items = some (w.map D.int) := by rcases h with rfl | rfl <;> rfl
end BW
set_option maxHeartbeats 1000000
set_option maxHeartbeats 1000000
set_option maxHeartbeats 1000000
set_option autoImplicit false
set_option maxHeartbeats 1000000
namespace DL
open PySem PySem.Spec PyProof.Rows L2 LamX
open PySem.W (Frag)
def nt (H : Hp) : Hp := fun a => match H a with
  | some (.tbl _) => none
  | o => o
theorem nt_some {H : Hp} {a : Addr} {o : HO} (h : nt H a = some o) : H a = some o ∧ NoTb o := by
  unfold nt at h
  split at h
  · cases h
  · rename_i n
    exact ⟨h, fun ps e => n ps (by rw [h, e])⟩
theorem nt_of {H : Hp} {a : Addr} {o : HO} (h : H a = some o) (n : NoTb o) : nt H a = some o := by
  unfold nt
  rw [h]
  cases o <;> first | rfl | exact absurd rfl (n _)
theorem nt_no (H : Hp) : NoTs (nt H) := fun a ps h => (nt_some h).2 ps rfl
structure AftT (K : Frag) (M : Option Mc) (X0 : List Addr) (H H' : Hp) (k : Nat) : Prop where
  sub : Sub (wo H (Ml M ++ X0)) (wo H' (Ml M ++ X0))
  old : ∀ a ∈ X0, H' a = H a
  m : MAt M H' k
def spDT (K : Frag) (T : List (Addr × PySem.Str)) (hm : Bool) (sp : DSp) : Sp := fun vs H Q _ => ∃ (m : Mc) (X0 : List Addr) (k : Nat) (ds : List D) (ws : List V) (R : D → Nat → Prop),
  m.T = T ∧ (match hm with | true => vs = .ref m.pm :: ws | false => vs = ws) ∧ Ahd K (some m) X0 H k ws ds ∧ sp ds k R ∧
  ∀ d k', R d k' → ∀ v H', AftT K (some m) X0 H H' k' → Rl K (wo H' (Ml (some m) ++ X0)) v d → Q v H'
structure CalT (P : Program) (w : World) (K : Frag) (mg : PySem.Str → Option Value) (base : Heap) (k : Nat) (x : PySem.Str) (T : List (Addr × PySem.Str)) (hm : Bool) (sp : DSp) : Prop where
  ex : ∃ f fd ps, L2G.FnG P w K mg base k f fd ps (spDT K T hm sp) ∧ mg x = some (.ref f) ∧ PySem.W.keepIn K (.ref f) = true ∧ Binds K fd ps []
abbrev dCallT (sp : DSp) (t : DA) : DE := fun s Q => t s fun ds k => sp ds k Q
theorem Rep.afterT {c : C} {s : S} {σ : L2.St} {H H' : Hp} {k : Nat} (r : Rep c s σ H) (h0 : NoTs c.H0) (a : AftT c.K c.M s.X H H' k) : Rep c (s.at k) σ H' ∧ AdvE c s.X H H' :=
  ⟨r.step a.sub (fun b hb _ => a.old b hb) a.m (tbk_none h0), a.sub, a.old⟩
section
variable {X : Cx} {c : C} {T : List (Addr × PySem.Str)} {k j : Nat} {x : PySem.Str} {sp : DSp} {p pos : Pos}
theorem pd_callGT (hK : c.K = X.K) (fr : LwC c T) (F : CalT X.prog X.w X.K X.mg X.base k x T false sp) (gu : X.A.guards = some []) (hr : Room j X.A) (hk : k ≤ j) {e : Expr} {es : List Expr} {t : DA} (ha : PA X (e :: es) (LA c t)) (hg : Gl X x := by rfl) (hdb : (x == ("__debug__" : PySem.Str)) = false := by decide) (he : starEach (e :: es) X.env = (false, eval e X.env) :: starEach es X.env := by rfl) (hpl : (backTo pos (starEach es X.env)).any (·.1) = false := by rfl) :
    PE X (.Call (.Name x p) (e :: es) [] pos) (LE c (dCallT sp t)) := by
  obtain ⟨f, fd, ps, G, hm, kp, b⟩ := F.ex
  obtain ⟨⟨m, hM, hT⟩, h0⟩ := fr
  refine (L2G.pe_callG (E := E0) G (hr.mono hk) gu hg hm kp b pass0 ha hdb he hpl).weak fun σ H Q ⟨s, R, rp, q, fn⟩ => ⟨s, _, rp, q, fun ds k1 h1 vs H1 r1 a1 e1 => ?_⟩
  have xm := r1.xm
  have mm := r1.m
  rw [hM] at xm mm
  have e1' : RlA X.K (wo H1 (Ml (some m) ++ s.X)) vs ds := by rw [← hK, ← hM]; exact e1
  refine ⟨m, s.X, k1, ds, vs, _, hT, rfl, ⟨xm, r1.xs, mm, e1', r1.xt⟩, h1, fun d k' hR v H' af er => ?_⟩
  have z := Rep.afterT (s := s.at k1) (k := k') r1 h0 ⟨by rw [hM]; exact af.sub, af.old, by rw [hM]; exact af.m⟩
  exact fn d k' hR v H' z.1 (a1.trans z.2) (by
    show Rl c.K (wo H' (Ml c.M ++ s.X)) v d
    rw [hK, hM]; exact er)
end
theorem init_repT {K : Frag} {m : Mc} {X0 : List Addr} {ow : List Nat} {hm : Bool} {N : List PySem.Str} {vs ws : List V} {ds : List D} {H : Hp} {k : Nat} (h : match hm with | true => vs = .ref m.pm :: ws | false => vs = ws)
    (a : Ahd K (some m) X0 H k ws ds) (hl : vs.length ≤ N.length) : Rep ⟨K, some m, X0, nt H, ow⟩ ⟨X0, init hm N.length ds, k⟩ (L2.start N vs) H := by
  have len := a.args.len
  have dat : ∀ (i : Nat) (o : Nat) (x : Sl), (∀ (j : Nat) (w : V), ws[j]? = some w → vs[j + o]? = some w) → (ds.map Sl.dat ++ List.replicate (N.length - (ds.length + o)) Sl.no)[i]? = some x → SlOk ⟨K, some m, X0, nt H, ow⟩ X0 H (L2.start N vs)[i + o]? x := fun i o x hw e => by
    by_cases hi : i < ds.length
    · rw [List.getElem?_append_left (by rw [List.length_map]; exact hi), List.getElem?_map] at e
      obtain ⟨d, hd⟩ : ∃ d, ds[i]? = some d := ⟨ds[i], by simp [hi]⟩
      rw [hd] at e
      cases e
      obtain ⟨w, h1, h2⟩ := a.args.getD hd
      exact ⟨w, start_get (hw i w h1), h2⟩
    · rw [List.getElem?_append_right (by rw [List.length_map]; omega), List.getElem?_replicate] at e
      split at e
      · cases e; trivial
      · cases e
  refine ⟨fun b o e => ?_, fun b _ _ hn => ?_, fun _ h => h, a.xm, a.xs, a.m, fun i x e => ?_, fun i j p q as bs e1 _ _ => ?_, ?_, tbk_none (nt_no H), a.xt⟩
  · obtain ⟨n1, e, n2⟩ := wo_all e
    exact wo_of n1 (nt_some e).1 n2
  · show H b = nt H b
    cases e : nt H b with
    | none => exact absurd e hn
    | some o => exact (nt_some e).1
  · cases hm with
    | false =>
      have h : vs = ws := h
      subst h
      exact dat i 0 x (fun j w h => h) (by simpa [init] using e)
    | true =>
      have h : vs = .ref m.pm :: ws := h
      subst h
      cases i with
      | zero =>
        have e' : Sl.mst = x := Option.some.inj e
        subst e'
        exact ⟨m, rfl, start_get rfl⟩
      | succ i => exact dat i 1 x (fun j w h => h) (by simpa [init] using e)
  · have e1 : (init hm N.length ds)[i]? = some (.own p as) := e1
    unfold init at e1
    have mem := List.mem_of_getElem? e1
    cases hm <;> simp at mem
  · show (init hm N.length ds).length = (L2.start N vs).length
    unfold init L2.start
    cases hm with
    | false =>
      have h : vs = ws := h
      subst h
      simp
      omega
    | true =>
      have h : vs = .ref m.pm :: ws := h
      subst h
      simp at hl
      simp
      omega
section
variable {P : Program} {w : World} {K : Frag} {mg : PySem.Str → Option Value} {base : Heap}
theorem okDGT {x qual : PySem.Str} {st : Stmt} {pn : PySem.Str × Option PySem.Str} {fd : FuncData} {N ps : List PySem.Str} {k : Nat} {hm : Bool} {sp : DSp} {T : List (Addr × PySem.Str)} (F : Fun K x qual st (He.fAd K pn) fd) (Sc : FnScope N ps (defScope st)) (ow : List Nat)
    (len : ∀ ds k R, sp ds k R → ds.length + (match hm with | true => 1 | false => 0) = ps.length)
    (body : ∃ t : DS, (∀ (cdv : Value) (A : Around) (outer : List Env) (s : Shared) (H : Hp) (E : XK) (c : C), cdv = .ref (He.codeOf K pn) → c.K = K → LwC c T → c.ow = ow → (A.deeper (PyProof.Rows.envOfC qual (defScope st) s.heap.objs.size (He.fAd K pn) cdv)).guards = some [] → Room k (A.deeper (PyProof.Rows.envOfC qual (defScope st) s.heap.objs.size (He.fAd K pn) cdv)) →
        PSs (cxOf CX0 P w K mg base N qual (defScope st) (He.fAd K pn) cdv A outer s H E).nox (defBody st) (LS c t)) ∧
      ∀ X ds k R, sp ds k R → t { nx := fun s => R .non s.k, rt := R } ⟨X, init hm N.length ds, k⟩) :
    L2G.FnG P w K mg base (k + 1) (He.fAd K pn) fd ps (spDT K T hm sp) := by
  obtain ⟨t, hb, hr⟩ := body
  have lens : ∀ vs H Q E, spDT K T hm sp vs H Q E → vs.length = ps.length := fun vs H Q E ⟨m, X0, k, ds, ws, R, hT, h1, a, h2, h3⟩ => by
    have q := len ds k R h2
    have l := a.args.len
    cases hm with
    | false =>
      have h1 : vs = ws := h1
      subst h1
      rw [l]
      exact q
    | true =>
      have h1 : vs = .ref m.pm :: ws := h1
      subst h1
      rw [List.length_cons, l]
      exact q
  refine L2G.okGT F Sc lens fun cdv A outer s H vs Q E hcd room gu h => ?_
  have hl := lens _ _ _ _ h
  obtain ⟨m, X0, k', ds, ws, R, hT, h1, a, h2, h3⟩ := h
  have hpl : ps.length ≤ N.length := by have := congrArg List.length Sc.pre; rw [List.length_take] at this; omega
  refine ⟨LS ⟨K, some m, X0, nt H, ow⟩ t, hb cdv A outer s H E ⟨K, some m, X0, nt H, ow⟩ hcd rfl ⟨⟨m, rfl, hT⟩, nt_no H⟩ rfl gu room, ⟨X0, init hm N.length ds, k'⟩, _, init_repT h1 a (by omega), hr X0 ds k' R h2, ?_⟩
  have sb : ∀ H' : Hp, Sub (wo (nt H) (Ml (some m) ++ X0)) (wo H' (Ml (some m) ++ X0)) → Sub (wo H (Ml (some m) ++ X0)) (wo H' (Ml (some m) ++ X0)) := fun H' f b o e => by
    obtain ⟨n1, e, n2⟩ := wo_all e
    exact f b o (wo_of n1 (nt_of e n2) n2)
  have fin : ∀ d k v H', Fin ⟨K, some m, X0, nt H, ow⟩ H' k → Rl K (wo H' (Ml (some m) ++ X0)) v d → R d k → Q v H' := fun d k v H' fi e r => by
    refine h3 d k r v H' ⟨sb H' fi.sub, fun b hb => ?_, fi.m⟩ e
    have hn : H b ≠ none := a.xs b hb
    cases eb : H b with
    | none => exact absurd eb hn
    | some o =>
      have e2 : nt H b = some o := nt_of eb fun ps z => a.xt b hb ps (by rw [eb, z])
      have q : H' b = nt H b := fi.old b hb (a.xm b hb) (by show nt H b ≠ none; rw [e2]; simp)
      rw [q, e2]
  exact ⟨fun s' σ' H' r _ q => fin .non s'.k .non H' r.fin .non q, fun _ _ _ _ _ q => q, fun _ _ _ _ _ q => q, fun d k v H' fi e r => fin d k v H' fi e r⟩
def TTof (K : Frag) (l : List ((PySem.Str × Option PySem.Str) × PySem.Str)) : List (Addr × PySem.Str) := l.map fun x => ((He.cT K x.1).2, x.2)
theorem inT_of {K : Frag} : ∀ {l : List ((PySem.Str × Option PySem.Str) × PySem.Str)}, (l.map fun x => (He.cT K x.1).2).Nodup → ∀ {x}, x ∈ l → InT (TTof K l) (He.cT K x.1).2 x.2 := fun {l} nd {x} hx => by
  refine ⟨List.mem_map.mpr ⟨x, hx, rfl⟩, fun p hp e => ?_⟩
  obtain ⟨y, hy, rfl⟩ := List.mem_map.mp hp
  have e : (He.cT K y.1).2 = (He.cT K x.1).2 := e
  have : y = x := by
    clear hp
    induction l with
    | nil => cases hx
    | cons z r ih =>
      obtain ⟨n1, n2⟩ := List.nodup_cons.mp nd
      rcases List.mem_cons.mp hx with a | a <;> rcases List.mem_cons.mp hy with b | b
      · rw [a, b]
      · exact absurd (List.mem_map.mpr ⟨y, b, by rw [← a]; exact e⟩) n1
      · exact absurd (List.mem_map.mpr ⟨x, a, by rw [← b]; exact e.symm⟩) n1
      · exact ih n2 a b
  rw [this]
end
end DL
namespace DL
open PySem L2 L2G
open PySem.W (Frag)
def SysK (K : Frag) : Prop := ∃ o, K.lookup sysModules = some o
theorem sysB_ok {K : Frag} (h : sysB K = true) : SysK K := Option.isSome_iff_exists.mp h
mutual
def D.plo : D → Bool
  | .lst xs => ploA xs
  | .tup xs => ploA xs
  | .dic => true
  | .ins _ _ _ => false
  | .exc _ _ _ => false
  | .non => true
  | .bl _ => true
  | .int _ => true
  | .str _ => true
def ploA : List D → Bool
  | [] => true
  | d :: r => D.plo d && ploA r
end
section
variable {X : Cx} {pins : List (Addr × Obj)} {σ : St} {H : Hp} {s : Shared}
theorem sys_free (I : Inv X pins σ H s) (hy : SysK X.K) : H sysModules = none :=
  let ⟨_, e⟩ := hy
  (I.bs _ _ (I.mod.kin _ _ e)).2
theorem not_sys (I : Inv X pins σ H s) (hy : SysK X.K) {a : Addr} {o : HO} (h : H a = some o) : ¬ sysModules = a := fun e => by
  have := sys_free I hy
  rw [e, h] at this
  cases this
mutual
theorem rl_reads (I : Inv X pins σ H s) (hy : SysK X.K) : ∀ (d : D) {v : V} {u : Value}, Rl X.K H v d → RelV v u → d.plo = true → ∃ as, Reads s.heap u d.py as ∧ sysModules ∉ as
  | .non, _, _, h, r, _ => by
    cases h
    cases r
    exact ⟨_, Reads.none, by simp⟩
  | .bl b, _, _, h, r, _ => by
    cases h
    cases r
    exact ⟨_, Reads.bool b, by simp⟩
  | .int i, _, _, h, r, _ => by
    cases h
    obtain ⟨t, rfl⟩ := r
    exact ⟨_, Reads.int i t, by simp⟩
  | .str x, _, _, h, r, _ => by
    cases h
    obtain ⟨t, rfl⟩ := r
    exact ⟨_, Reads.str x t, by simp⟩
  | .lst ds, _, _, h, r, p => by
    cases h with
    | lst hs ha =>
      cases r
      obtain ⟨its, rv, ⟨o, n, ho, hc, _, hd⟩, _⟩ := I.list (SqL.of hs)
      obtain ⟨as, hr, hn⟩ := rlA_reads I hy ds ha rv p
      exact ⟨_, Reads.list ho hc hd hr, fun z => (List.mem_cons.mp z).elim (not_sys I hy hs) hn⟩
  | .tup ds, _, _, h, r, p => by
    cases h with
    | tup hs ha =>
      cases r
      obtain ⟨its, rv, ⟨o, ho, hc, n, hd⟩, _⟩ := I.tuple hs
      obtain ⟨as, hr, hn⟩ := rlA_reads I hy ds ha rv p
      exact ⟨_, Reads.tuple ho hc hd hr, hn⟩
  | .dic, _, _, h, r, _ => by
    cases h with
    | dic hs =>
      cases r
      obtain ⟨_, _, vs, rel, o, es, ep, ho, hx, hd, _, pr, _⟩ := I.hok _ _ hs
      cases rel
      have e : es.toList = [] := List.length_eq_zero_iff.mp pr.length
      refine ⟨_, Reads.dict (as := []) (bs := []) ho hx.1 hd (by rw [e]; exact ReadsAll.nil) (by rw [e]; exact ReadsAll.nil), fun z => ?_⟩
      exact (List.mem_cons.mp z).elim (not_sys I hy hs) (by simp)
  | .ins _ _ _, _, _, _, _, p => by cases p
  | .exc _ _ _, _, _, _, _, p => by cases p
theorem rlA_reads (I : Inv X pins σ H s) (hy : SysK X.K) : ∀ (ds : List D) {vs : List V} {us : List Value}, RlA X.K H vs ds → Vals vs us → ploA ds = true → ∃ as, ReadsAll s.heap us (pyA ds) as ∧ sysModules ∉ as
  | [], _, _, h, r, _ => by
    cases h
    cases r
    exact ⟨_, ReadsAll.nil, by simp⟩
  | d :: ds, _, _, h, r, p => by
    obtain ⟨p1, p2⟩ := Bool.and_eq_true_iff.mp (show (D.plo d && ploA ds) = true from p)
    cases h with
    | cons h1 h2 =>
      cases r with
      | cons r1 r2 =>
        obtain ⟨as, q1, n1⟩ := rl_reads I hy d h1 r1 p1
        obtain ⟨bs, q2, n2⟩ := rlA_reads I hy ds h2 r2 p2
        exact ⟨_, ReadsAll.cons q1 q2, fun z => (List.mem_append.mp z).elim n1 n2⟩
end
end
mutual
theorem showno_up : ∀ d : D, d.plo = true → d.shw = true → d.py.shown.length ≤ d.wg ∧ d.py.showable = true
  | .non, _, _ => ⟨by decide, rfl⟩
  | .bl b, _, _ => ⟨by cases b <;> decide, rfl⟩
  | .int i, _, h => ⟨PyProof.Rows.int_text_len_1921 (of_decide_eq_true h), h⟩
  | .str x, _, _ => ⟨Nat.le_refl _, rfl⟩
  | .lst xs, p, h => by
    obtain ⟨h1, h2⟩ := shownoA_up xs p h
    refine ⟨?_, h2⟩
    show (listText (PyData.shownAll (pyA xs))).length ≤ wgA xs + 2
    have := listText_up (PyData.shownAll (pyA xs))
    omega
  | .tup xs, p, h => by
    obtain ⟨h1, h2⟩ := shownoA_up xs p h
    refine ⟨?_, h2⟩
    show (tupleText (PyData.shownAll (pyA xs))).length ≤ wgA xs + 4
    have := tupleText_up (PyData.shownAll (pyA xs))
    omega
  | .dic, _, _ => ⟨by decide, rfl⟩
  | .ins _ _ _, p, _ => by cases p
  | .exc _ _ _, p, _ => by cases p
theorem shownoA_up : ∀ ds : List D, ploA ds = true → shwA ds = true → piled (PyData.shownAll (pyA ds)) ≤ wgA ds ∧ PyData.showableAll (pyA ds) = true
  | [], _, _ => ⟨Nat.le_refl _, rfl⟩
  | d :: r, p, h => by
    obtain ⟨p1, p2⟩ := Bool.and_eq_true_iff.mp (show (D.plo d && ploA r) = true from p)
    obtain ⟨h1, h2⟩ := Bool.and_eq_true_iff.mp (show (D.shw d && shwA r) = true from h)
    obtain ⟨a1, a2⟩ := showno_up d p1 h1
    obtain ⟨b1, b2⟩ := shownoA_up r p2 h2
    refine ⟨?_, ?_⟩
    · show piled (d.py.shown :: PyData.shownAll (pyA r)) ≤ D.wg d + 2 + wgA r
      rw [piled_cons]
      omega
    · show (d.py.showable && PyData.showableAll (pyA r)) = true
      rw [a2, b2]; rfl
end
structure ShwO (d : D) : Prop where
  plo : d.plo = true
  shw : d.shw = true
  dep : d.py.depth ≤ 60
  wg : d.wg ≤ sizeLine
end DL
set_option maxHeartbeats 1000000
set_option maxHeartbeats 1000000
set_option maxHeartbeats 1000000
set_option maxHeartbeats 1000000
set_option maxHeartbeats 1000000
namespace DL
open PySem PySem.Spec PyProof.Rows L2
open PySem.W (Frag)
abbrev typN : List String := ["NoneType", "bool", "int", "str", "list", "tuple", "dict"]
abbrev typR : List String := ["NoneType", "int", "str", "list", "tuple", "dict"]
structure OwnK (K : Frag) (C f : Addr) : Prop where
  cl : Cls K C
  ca : PySem.W.findIn K (.ref C) "__class__" = some (some (.builtin "object.__class__"))
  cg : PySem.W.specialIn K (.builtin "object.__class__") "__get__" = some (some (.builtin "getset_descriptor.__get__"))
  tk : PySem.W.takesIn K (.builtin "object.__class__") = some true
  ob : PySem.W.mroIn K C (.type "object") = some true
  eq : PySem.W.findIn K (.ref C) "__eq__" = some (some (.ref f))
  fn : PySem.W.isFn K (.ref f) = true
  ne : PySem.W.findIn K (.ref C) "__ne__" = some (some (.builtin "object.__ne__"))
  kt : PySem.W.kitOne K (.ref C) (.ref C) = some true
  kf : ∀ T ∈ typN, PySem.W.kitOne K (.type T) (.ref C) = some false
  sf : ∀ T ∈ typR, PySem.W.subIn K (.ref C) (.type T) = some false
  nf : ∀ T ∈ typN, PySem.W.notFirst K C (.type T) = true
end DL
set_option maxHeartbeats 1000000
namespace DL
open PySem PySem.Spec PyProof.Rows L2
open PySem.W (Frag)
section
variable {K : Frag} {c : C} {C f : Addr} {sp : DSp}
theorem OwnK.ty (O : OwnK K C f) {H : Hp} {v : V} {d : D} (r : Rl K H v d) (h : (∃ n ∈ typN, d.tname = some n) ∨ ∃ ns xs, d = .ins C ns xs) : ∃ t, TyX K H v t ∧ PySem.W.notFirst K C t = true := by
  rcases h with ⟨n, hn, e⟩ | ⟨ns, xs, rfl⟩
  · exact ⟨_, r.ty e, O.nf n hn⟩
  · obtain ⟨a, dx, us, rfl, h2, l, r⟩ := r.insE
    exact ⟨_, .base (.ins h2 O.cl O.ca O.cg O.tk O.ob), by simp [PySem.W.notFirst]⟩
end
end DL
set_option maxHeartbeats 1000000
namespace BW
open PySem L2 DL
theorem pyMap (f : List Int → D) : ∀ T : Mat, pyA (T.map f) = T.map fun r => (f r).py
  | [] => rfl
  | r :: T => by
    show (f r).py :: pyA (T.map f) = _
    rw [pyMap f T]
    rfl
theorem eqv_rows (f : List Int → D) (hf : ∀ r q, PyData.eqv (f r).py (f q).py = decide (r = q)) : ∀ T U : Mat, PyData.eqvAll (T.map fun r => (f r).py) (U.map fun r => (f r).py) = decide (T = U)
  | [], [] => rfl
  | [], _ :: _ => rfl
  | _ :: _, [] => rfl
  | r :: T, q :: U => by
    show (PyData.eqv (f r).py (f q).py && PyData.eqvAll (T.map fun r => (f r).py) (U.map fun r => (f r).py)) = _
    rw [eqv_rows f hf T U, hf]
    by_cases h1 : r = q
    · subst h1
      by_cases h2 : T = U
      · simp [h2]
      · simp [h2]
    · simp [h1]
theorem eqv_tM (T U : Mat) : PyData.eqv (tM T).py (tM U).py = decide (T = U) := by
  show PyData.eqvAll (pyA (T.map tI)) (pyA (U.map tI)) = _
  rw [pyMap, pyMap]
  exact eqv_rows tI eqv_tupI T U
theorem okE_rows {f : List Int → D} (h1 : ∀ r, (f r).plain = true) (h2 : ∀ r, PyData.canLay0 (f r).py = true) (h3 : ∀ r, PyData.depth (f r).py = 1) : ∀ T : Mat, plainA (T.map f) = true ∧ PyData.canLayAll0 (pyA (T.map f)) = true ∧ PyData.depthAll (pyA (T.map f)) ≤ 1
  | [] => ⟨rfl, rfl, by show 0 ≤ 1; decide⟩
  | r :: T => by
    obtain ⟨a, b, c⟩ := okE_rows h1 h2 h3 T
    refine ⟨?_, ?_, ?_⟩
    · show ((f r).plain && plainA (T.map f)) = true
      rw [h1, a]; rfl
    · show (PyData.canLay0 (f r).py && PyData.canLayAll0 (pyA (T.map f))) = true
      rw [h2, b]; rfl
    · show max (PyData.depth (f r).py) (PyData.depthAll (pyA (T.map f))) ≤ 1
      rw [h3]; omega
theorem okE_mat {f : List Int → D} (h1 : ∀ r, (f r).plain = true) (h2 : ∀ r, PyData.canLay0 (f r).py = true) (h3 : ∀ r, PyData.depth (f r).py = 1) (T : Mat) : (D.lst (T.map f)).okE = true ∧ (D.tup (T.map f)).okE = true := by
  obtain ⟨a, b, c⟩ := okE_rows h1 h2 h3 T
  have q : (plainA (T.map f) && (PyData.canLayAll0 (pyA (T.map f)) && decide (PyData.depthAll (pyA (T.map f)) + 1 ≤ 64))) = true := by
    rw [a, b, decide_eq_true (by omega)]; rfl
  exact ⟨q, q⟩
theorem okE_tM (T : Mat) : (tM T).okE = true := (okE_mat (f := tI) (fun r => plain_ints r) (fun r => by show PyData.canLayAll0 (pyA (r.map D.int)) = true; rw [py_ints, lay_ints]) (fun r => by show PyData.depthAll (pyA (r.map D.int)) + 1 = 1; rw [py_ints, depth_ints]) T).2
end BW
set_option maxHeartbeats 1000000
namespace DL
open PySem PySem.Spec PyProof.Rows L2
open PySem.W (Frag)
structure Bld (K : Frag) (X0 : List Addr) (x C dx : Addr) (H0 H : Hp) (ws : List V) (as : List D) (ns : List PySem.Str) (vs : List V) (ds : List D) : Prop where
  at_ : H x = some (.ins C dx (ns.zip vs))
  len : ns.length = vs.length
  ra : RlA K (wo H (x :: X0)) ws as
  rf : RlA K (wo H (x :: X0)) vs ds
  old : ∀ a ∈ X0, H a = H0 a
  sub : Sub (wo H0 (x :: X0)) (wo H (x :: X0))
  tb : TbK H0 H
theorem wo_updh {H : Hp} {x : Addr} {X0 : List Addr} {o : HO} : wo (upd H x o) (x :: X0) = wo H (x :: X0) := by
  funext a
  unfold wo
  by_cases h : a = x
  · subst h
    rw [if_pos List.mem_cons_self, if_pos List.mem_cons_self]
  · rw [upd_ne h]
section
variable {K : Frag} {X0 : List Addr} {x C dx : Addr} {H0 H : Hp} {ws : List V} {as : List D} {ns : List PySem.Str} {vs : List V} {ds : List D}
theorem Bld.step (B : Bld K X0 x C dx H0 H ws as ns vs ds) (hx : x ∉ X0) {H' : Hp} {v : V} {d : D} (own : ∀ a ∈ x :: X0, H' a = H a) (sub : Sub (wo H (x :: X0)) (wo H' (x :: X0))) (tb : TbK H H') (r : Rl K (wo H' (x :: X0)) v d) (f : PySem.Str) :
    H' x = some (.ins C dx (ns.zip vs)) ∧ Bld K X0 x C dx H0 (upd H' x (.ins C dx ((ns ++ [f]).zip (vs ++ [v])))) ws as (ns ++ [f]) (vs ++ [v]) (ds ++ [d]) := by
  have e : H' x = some (.ins C dx (ns.zip vs)) := by rw [own x List.mem_cons_self]; exact B.at_
  refine ⟨e, upd_same, by rw [List.length_append, List.length_append, B.len]; rfl, ?_, ?_, fun a h => ?_, ?_, ?_⟩
  · rw [wo_updh]; exact B.ra.mono sub
  · rw [wo_updh]; exact (B.rf.mono sub).app (.cons r .nil)
  · rw [upd_ne (fun z => hx (by rw [← z]; exact h)), own a (List.mem_cons_of_mem _ h)]; exact B.old a h
  · rw [wo_updh]; exact B.sub.trans sub
  · exact B.tb.trans (tb.trans (TbK.at_ e))
theorem Bld.done (B : Bld K X0 x C dx H0 H ws as ns vs ds) (hx : x ∉ X0) : Sub (wo H0 (x :: X0)) (wo H X0) ∧ Rl K (wo H X0) (.ref x) (.ins C ns ds) := by
  have m : Sub (wo H (x :: X0)) (wo H X0) := wo_more fun a h => List.mem_cons_of_mem _ h
  exact ⟨B.sub.trans m, .ins (wo_of hx B.at_) B.len (B.rf.mono m)⟩
end
end DL
set_option maxHeartbeats 1000000
set_option maxHeartbeats 1000000
namespace BW
open PySem L2 DL
inductive Val : Nat → D → Prop
  | non {n : Nat} : Val n .non
  | bl {n : Nat} (b : Bool) : Val n (.bl b)
  | int {n : Nat} (i : Int) : Val n (.int i)
  | str {n : Nat} {x : PySem.Str} : PyData.strOk x = true → Val n (.str x)
  | tup {n : Nat} {xs : List D} : xs.length ≤ 300000 → (n ≤ 1 → xs.length ≤ 900) → (∀ x ∈ xs, Val n x) → Val (n + 1) (.tup xs)
  | lst {n : Nat} {xs : List D} : xs.length ≤ 300000 → (n ≤ 1 → xs.length ≤ 900) → (∀ x ∈ xs, Val n x) → Val (n + 1) (.lst xs)
theorem Val.up {n : Nat} {d : D} (h : Val n d) : ∀ {m : Nat}, n ≤ m → Val m d := by
  induction h with
  | non => exact fun _ => .non
  | bl b => exact fun _ => .bl b
  | int i => exact fun _ => .int i
  | str h => exact fun _ => .str h
  | @tup n xs h1 h2 h3 ih =>
    intro m hm
    obtain ⟨m, rfl⟩ : ∃ k, m = k + 1 := ⟨m - 1, by omega⟩
    exact .tup h1 (fun z => h2 (by omega)) fun x hx => ih x hx (by omega)
  | @lst n xs h1 h2 h3 ih =>
    intro m hm
    obtain ⟨m, rfl⟩ : ∃ k, m = k + 1 := ⟨m - 1, by omega⟩
    exact .lst h1 (fun z => h2 (by omega)) fun x hx => ih x hx (by omega)
theorem Val.ty {n : Nat} {d : D} (h : Val n d) : d.tname.isSome = true := by cases h <;> rfl
theorem lays17 {n : Nat} : ∀ {xs : List D}, (∀ x ∈ xs, x.plain = true ∧ PyData.canLay0 x.py = true ∧ PyData.depth x.py ≤ n) → plainA xs = true ∧ PyData.canLayAll0 (pyA xs) = true ∧ PyData.depthAll (pyA xs) ≤ n
  | [], _ => ⟨rfl, rfl, Nat.zero_le _⟩
  | x :: r, h => by
    obtain ⟨a, b, c⟩ := lays17 (xs := r) fun z hz => h z (List.mem_cons_of_mem _ hz)
    obtain ⟨a', b', c'⟩ := h x List.mem_cons_self
    refine ⟨?_, ?_, ?_⟩
    · show (x.plain && plainA r) = true
      rw [a', a]; rfl
    · show (PyData.canLay0 x.py && PyData.canLayAll0 (pyA r)) = true
      rw [b', b]; rfl
    · show max (PyData.depth x.py) (PyData.depthAll (pyA r)) ≤ n
      omega
theorem Val.lay {n : Nat} {d : D} (h : Val n d) : d.plain = true ∧ PyData.canLay0 d.py = true ∧ PyData.depth d.py ≤ n := by
  induction h with
  | non => exact ⟨rfl, rfl, Nat.zero_le _⟩
  | bl b => exact ⟨rfl, rfl, Nat.zero_le _⟩
  | int i => exact ⟨rfl, rfl, Nat.zero_le _⟩
  | str h => exact ⟨rfl, h, Nat.zero_le _⟩
  | @tup n xs h1 h2 h3 ih =>
    obtain ⟨a, b, c⟩ := lays17 ih
    exact ⟨a, b, by show PyData.depthAll (pyA xs) + 1 ≤ n + 1; omega⟩
  | @lst n xs h1 h2 h3 ih =>
    obtain ⟨a, b, c⟩ := lays17 ih
    exact ⟨a, b, by show PyData.depthAll (pyA xs) + 1 ≤ n + 1; omega⟩
theorem Val.okE {n : Nat} {d : D} (h : Val n d) (hn : n ≤ 40) : d.okE = true := by
  obtain ⟨a, b, c⟩ := h.lay
  show (d.plain && (PyData.canLay0 d.py && decide (PyData.depth d.py ≤ 64))) = true
  rw [a, b, decide_eq_true (by omega)]; rfl
end BW
set_option maxHeartbeats 1000000
namespace BW
open PySem L2 DL
theorem at0 (y : D) (r : List D) : atI (y :: r) 0 = some y := atI_nat (j := 0) rfl
end BW
set_option maxHeartbeats 1000000
namespace BW
open PySem L2 DL
structure Chc (n : Nat) (c : List Int) : Prop where
  wd : Wd n c
  asc : c.Pairwise (· < ·)
  le : c.length ≤ 6
def sp_is_choice (BC : Addr) : DSp := fun ds k R => ∃ T c, ds = [bnd BC T, tI c] ∧ Tab T ∧ Chc T.length c ∧ R (.bl true) k
def sp_check_choice (BC : Addr) : DSp := fun ds k R => ∃ T c, ds = [bnd BC T, tI c] ∧ Tab T ∧ Chc T.length c ∧ R .non k
abbrev t_is_choice (BC : Addr) : DS := (dSeq (dIfS (dOr (dNot (dTru (dIsi "tuple" (dVar 1)))) (dNot (dTru (dAll (dFr (dLc (iTp (dVar 1)) (dgN 4) dY (dCall sp_is_letter (dCons (dVar 4) (dCons (dLenO BC (sp_len_Bonds BC) (dVar 0)) dNil))) [4])))))) (dRet (dC (.bl false))) dNext)
  (dRet (dAll (dFr (dLc (iZp (dVar 1) (dSl (dVar 1) (dOS (dC (.int 1))) dON)) (dgTup 2 (dgCons (dgN 2) (dgCons (dgN 3) dgNil))) dY (dOp oLt (dVar 2) (dVar 3)) [2, 3])))))
abbrev t_check_choice (BC : Addr) : DS := (dIfS (dNot (dTru (dCall (sp_is_choice BC) (dCons (dVar 0) (dCons (dVar 1) dNil))))) (fun _ _ => False) dNext)
theorem filtI {xs : List Int} {j : Nat} {a : Int} (h : xs[j]? = some a) (p : Int → Bool) : (xs.take (j + 1)).filter p = (xs.take j).filter p ++ if p a = true then [a] else [] := by
  rw [List.take_succ, h, List.filter_append]
  congr 1
  by_cases q : p a = true
  · rw [if_pos q]; exact List.filter_cons_of_pos q
  · rw [if_neg q]; exact List.filter_cons_of_neg q
theorem l10k {n : Nat} (h : n ≤ 10000) : n ≤ lim := Nat.le_trans h (by decide)
theorem bls_step {xs : List Int} {j : Nat} {a : Int} (h : xs[j]? = some a) (f : Int → Bool) : ((xs.take (j + 1)).map f).map D.bl = ((xs.take j).map f).map D.bl ++ [D.bl (f a)] := by
  rw [List.take_succ, h, List.map_append, List.map_append]; rfl
theorem all_true {xs : List Int} : ((xs.map fun _ => true).all id) = true := List.all_eq_true.mpr fun b hb => by
  obtain ⟨_, _, rfl⟩ := List.mem_map.mp hb
  rfl
theorem r_is_choice (BC : Addr) (X : List Addr) (ds : List D) (k : Nat) (R : D → Nat → Prop) (h : sp_is_choice BC ds k R) : t_is_choice BC (En R) (St0 false 5 ds X k) := by
  obtain ⟨T, c, rfl, ht, hc, h⟩ := h
  have hT := ht.hi
  have l6 := hc.le
  refine ⟨_, rfl, _, true, rfl, by decide +kernel, _, rfl, iteF ?_⟩
  refine ⟨_, rfl, _, rfl, by rw [List.length_map]; exact l10k (by omega), fun p hp => ⟨fun j acc k' => k' = k ∧ acc = ((c.take j).map fun _ => true).map D.bl, ⟨rfl, rfl⟩, ?_, ?_⟩⟩
  · rintro j d acc k' hd ⟨rfl, rfl⟩ _
    rw [List.getElem?_map] at hd
    obtain ⟨a, ha, rfl⟩ := Option.map_eq_some_iff.mp hd
    have b := hc.wd a (List.mem_of_getElem? ha)
    have e : D.isL T.length (.int a) = true := by
      show (decide (1 ≤ a) && decide (a ≤ (T.length : Int))) = true
      rw [decide_eq_true b.1, decide_eq_true b.2]; rfl
    refine iteT ⟨_, rfl, _, rfl, ⟨_, _, rfl⟩, T, rfl, hT, T.length, rfl, by omega, .int a, _, rfl, rfl, ?_⟩
    rw [e]
    exact ⟨rfl, (bls_step ha fun _ => true).symm⟩
  · rintro acc k' ⟨rfl, rfl⟩ _
    rw [List.length_map, List.take_length]
    refine ⟨_, rfl, _, rfl, ?_⟩
    rw [all_true]
    refine iteF fun X' => ?_
    have lp : (pairD (c.map D.int) ((c.drop 1).map D.int)).length = (c.drop 1).length := by
      rw [pair_len, List.length_map, List.length_map, List.length_drop]; omega
    have ec : D.tup (cutD (c.map D.int) (some 1) none) = D.tup ((c.drop 1).map D.int) := by rw [cut_from (z := 1) (k := 1) rfl, ← List.map_drop]
    refine ⟨_, rfl, _, rfl, _, rfl, c.map D.int, (c.drop 1).map D.int, rfl, ec, by rw [lp, List.length_drop]; exact l10k (by omega), fun p hp => ⟨fun j acc k2 => k2 = k' ∧ acc = (((c.drop 1).take j).map fun _ => true).map D.bl, ⟨rfl, rfl⟩, ?_, ?_⟩⟩
    · rintro j d acc k' hd ⟨rfl, rfl⟩ _
      obtain ⟨x, y, hx, hy, rfl⟩ := pair_at hd
      rw [List.getElem?_map] at hx hy
      obtain ⟨a, ha, rfl⟩ := Option.map_eq_some_iff.mp hx
      obtain ⟨b, hb, rfl⟩ := Option.map_eq_some_iff.mp hy
      have lt : a < b := by
        rw [List.getElem?_drop] at hb
        obtain ⟨h1, e1⟩ := List.getElem?_eq_some_iff.mp ha
        obtain ⟨h2, e2⟩ := List.getElem?_eq_some_iff.mp hb
        have := List.pairwise_iff_getElem.mp hc.asc j (1 + j) h1 h2 (by omega)
        rw [e1, e2] at this
        exact this
      refine ⟨rfl, rfl, iteT ⟨_, rfl, _, rfl, ?_⟩⟩
      have e3 := bls_step hb fun _ => true
      exact ⟨rfl, by rw [decide_eq_true lt]; exact e3.symm⟩
    · rintro acc k' ⟨rfl, rfl⟩ _
      rw [lp, List.take_length]
      refine ⟨_, rfl, ?_⟩
      rw [all_true]
      exact h
theorem r_check_choice (BC : Addr) (X : List Addr) (ds : List D) (k : Nat) (R : D → Nat → Prop) (h : sp_check_choice BC ds k R) : t_check_choice BC (En R) (St0 false 2 ds X k) := by
  obtain ⟨T, c, rfl, ht, hc, h⟩ := h
  exact ⟨_, rfl, _, rfl, T, c, rfl, ht, hc, _, rfl, iteF h⟩
end BW
set_option maxHeartbeats 1000000
set_option autoImplicit false
namespace LamD
open PySem PySem.Spec PyProof.Rows L2 LamX
end LamD
set_option maxHeartbeats 1000000
set_option autoImplicit false
namespace LamD
open PySem PySem.Spec PyProof.Rows L2 LamX
end LamD
set_option maxHeartbeats 1000000
set_option autoImplicit false
namespace LamD
open PySem PySem.Spec PyProof.Rows L2 LamX
structure LamSN (sc scope : Scope) (n : Str) : Prop where
  kind : scope.kind = .function
  co : scope.isCoroutine = false
  gen : scope.isGenerator = false
  own : ∀ y ∈ scope.names, y.2 ≠ .cell ∧ (y.2 = .local → y.1 = n)
  isl : scope.names.lookup n = some .local
  nn : n ≠ ("" : Str) ∧ scope.names.lookup ("" : Str) = none
  free : ∀ y ∈ scope.names, y.2 = .free → sc.names.lookup y.1 = some .cell ∨ sc.names.lookup y.1 = some .free
section
variable {X : Cx} {pins : List (Addr × Obj)} {σ : L2.St} {H HZ : Hp} {s s1 : Shared} {A : Around} {outer : List Env} {E : XK} {scope : Scope} {f c' : Addr} {h₁ : Heap} {tk : Nat} {n : Str} {Nn : List Str} {u : Value}
theorem LamSN.has (L : LamSN X.env.scope scope n) (ok : X.Ok) : ∀ y ∈ scope.names, y.2 = NameKind.free → ∃ c, X.env.cells.lookup y.1 = some c := fun y hy hf => ok.has y.1 (L.free y hy hf)
end
end LamD
set_option maxHeartbeats 1000000
set_option autoImplicit false
namespace LamD
open PySem PySem.Spec PyProof.Rows L2 LamX
end LamD
set_option maxHeartbeats 1000000
set_option autoImplicit false
namespace LamD
open PySem PySem.Spec PyProof.Rows L2 LamX
end LamD
set_option maxHeartbeats 1000000
namespace LamD
open PySem
end LamD
namespace DL
open PySem PySem.Spec PyProof.Rows L2 LamX LamD
end DL
set_option maxHeartbeats 1000000
namespace DL
open PySem PySem.Spec PyProof.Rows L2 LamX
end DL
set_option maxHeartbeats 1000000
namespace DL
open PySem PySem.Spec PyProof.Rows L2 LamX LamD
open PySem.W (Frag)
end DL
namespace DL
open PySem L2
open PySem.W (Frag)
end DL
set_option maxHeartbeats 2000000
namespace PySem
end PySem
set_option maxHeartbeats 2000000
namespace DL
open PySem PySem.Spec PyProof.Rows L2
open PySem.W (Frag)
end DL
set_option maxHeartbeats 2000000
namespace DL
open PySem PySem.Spec PyProof.Rows L2
open PySem.W (Frag)
end DL
namespace DL
open PySem L2 L2G
open PySem.W (Frag)
section
variable {X : Cx} {c : C} {p pos : Pos}
theorem call_reprA (hy : SysK X.K) (gu : X.A.guards = some []) (hu : X.A.units + 64 < cLine) : CallR X (.builtin "repr") (fun xs H Q => ∃ (v : V) (d : D), xs = [v] ∧ Rl X.K H v d ∧ ShwO d ∧ Q (.str d.py.shown) H) := by
  intro pins s σ H xs us Q I r ⟨v, d, e, dp, h1, q⟩
  subst e
  obtain ⟨u, rfl, ru⟩ := vals1 r
  obtain ⟨as, rd, hn⟩ := rl_reads I hy d dp ru h1.plo
  obtain ⟨b1, b2⟩ := showno_up d h1.plo h1.shw
  have hd := h1.dep
  have ref : ∀ a, u = Value.ref a → wpAny (model X.prog X.w) X.A (call (.builtin "repr") [u]) (EP X pins σ Q) X.xe s := fun a e => by
    subst e
    exact repr_of_reads' rd b2 (fun _ => hn) gu (by omega) (fun _ _ e => e) (fun h' u tk k => ⟨.str d.py.shown, H, I.kept k, ⟨u, rfl⟩, q⟩) (Nat.le_trans b1 h1.wg)
  cases d with
  | non =>
    cases dp
    cases (show u = Value.none from ru)
    exact PySem.P.repr_of_none ⟨.str _, H, I.tok _, ⟨_, rfl⟩, q⟩
  | bl b =>
    cases dp
    cases (show u = Value.bool b from ru)
    exact PySem.P.repr_of_bool ⟨.str _, H, I.tok _, ⟨_, rfl⟩, q⟩
  | int i =>
    cases dp
    obtain ⟨t, rfl⟩ := ru
    exact PySem.P.repr_of_int (of_decide_eq_true h1.shw) ⟨.str _, H, I.tok _, ⟨_, rfl⟩, q⟩
  | str x =>
    cases dp
    obtain ⟨t, rfl⟩ := ru
    exact PySem.P.repr_of_str ⟨.str _, H, I.tok _, ⟨_, rfl⟩, q⟩ (Nat.le_trans b1 h1.wg)
  | lst xs => cases dp with | lst hs ha => exact ref _ ru
  | tup xs => cases dp with | tup hs ha => exact ref _ ru
  | dic => cases dp with | dic hs => exact ref _ ru
  | ins _ _ _ => cases h1.plo
  | exc _ _ _ => cases h1.plo
abbrev dRepA (t : DE) : DE := fun s Q => t s fun d k => ShwO d ∧ Q (.str d.py.shown) k
theorem pd_reprA (hK : c.K = X.K) (hy : SysK X.K) (gu : X.A.guards = some []) {j : Nat} (hr : Room j X.A) (hm : X.mg "repr" = none) {e : Expr} {t : DE} (h : PE X e (LE c t)) (hg : Gl X "repr" := by rfl) (hs : starEach [e] X.env = (false, eval e X.env) :: starEach [] X.env := by rfl) (hp : (backTo pos (starEach [] X.env)).any (·.1) = false := by rfl) :
    PE X (.Call (.Name "repr" p) [e] [] pos) (LE c (dRepA t)) :=
  (pe_callB (call_reprA hy gu hr.units) hg hm (by first | exact PySem.boot_repr | rfl) (pa_cons h pa_nil hs) (he := hs) (hpl := hp)).weak fun σ H Q ⟨s, R, rp, q, f⟩ => ⟨s, _, rp, q, fun d k ⟨h2, h3⟩ v H1 r1 a1 e1 =>
    ⟨v, d, rfl, hK ▸ e1.mono (wo_sub _ _), h2, f _ k h3 (.str d.py.shown) H1 r1 a1 (.str _)⟩⟩
end
end DL
set_option maxHeartbeats 2000000
namespace DL
open PySem PySem.Spec PyProof.Rows L2
open PySem.W (Frag)
end DL
set_option maxHeartbeats 2000000
namespace DL
open PySem PySem.Spec PyProof.Rows L2
end DL
set_option maxHeartbeats 1000000
namespace BW
open PySem L2 DL
def WdO (T : Mat) (d : D) (k : Nat) (E : D → Nat → Prop) (G : List Int → Prop) : Prop := (∃ x, BadW T.length d x ∧ E x k) ∨ ∃ w, isW d w ∧ w.length ≤ 60 ∧ Wd T.length w ∧ G w
theorem WdO.imp {T : Mat} {d : D} {k : Nat} {E : D → Nat → Prop} {G G' : List Int → Prop} (h : WdO T d k E G) (f : ∀ w, Wd T.length w → w.length ≤ 60 → G w → G' w) : WdO T d k E G' := Or.imp id (fun ⟨w, a, b, c, g⟩ => ⟨w, a, b, c, f w c b g⟩) h
end BW
namespace BW
open PySem L2 DL
theorem Mx.snoc {H : Hp} {D q : Addr} {qs : List Addr} {M : Mat} {r : List Int} (mx : Mx H D qs M) (fq : H q = none) : Mx (upd (upd H q (.lst (r.map V.int))) D (.lst ((qs ++ [q]).map V.ref))) D (qs ++ [q]) (M ++ [r]) := by
  have nDq : D ≠ q := fun z => by have := mx.top; rw [z, fq] at this; cases this
  have nqs : q ∉ qs := fun z => by
    obtain ⟨j, hj⟩ := List.getElem?_of_mem z
    have hj2 : j < M.length := by have := (List.getElem?_eq_some_iff.mp hj).1; rw [mx.len] at this; exact this
    have := mx.row j q _ hj (List.getElem?_eq_getElem hj2)
    rw [fq] at this
    cases this
  refine ⟨upd_same, by rw [List.length_append, List.length_append, mx.len]; rfl, fun j b r' hb hr => ?_, ?_, ?_⟩
  · have nbD : b ≠ D := fun z => by
      rcases List.mem_append.mp (List.mem_of_getElem? hb) with h2 | h2
      · exact mx.out (z ▸ h2)
      · rw [List.mem_singleton] at h2
        exact nDq (z ▸ h2)
    rw [upd_ne nbD]
    by_cases hj : j < qs.length
    · rw [List.getElem?_append_left hj] at hb
      rw [List.getElem?_append_left (by rw [← mx.len]; exact hj)] at hr
      have nb : b ≠ q := fun z => nqs (z ▸ List.mem_of_getElem? hb)
      rw [upd_ne nb]
      exact mx.row j b r' hb hr
    · rw [List.getElem?_append_right (by omega)] at hb
      rw [List.getElem?_append_right (by rw [← mx.len]; omega), ← mx.len] at hr
      have ej : j - qs.length = 0 := by
        have := (List.getElem?_eq_some_iff.mp hb).1
        rw [List.length_singleton] at this
        omega
      rw [ej] at hb hr
      cases hb
      cases hr
      exact upd_same
  · exact List.nodup_append.mpr ⟨mx.nd, by simp, fun a ha b hb => by
      rw [List.mem_singleton] at hb
      subst hb
      exact fun z => nqs (z ▸ ha)⟩
  · intro z
    rcases List.mem_append.mp z with z | z
    · exact mx.out z
    · rw [List.mem_singleton] at z
      exact nDq z
theorem ones_row (n : Nat) : (List.replicate ((n : Int)).toNat [V.int 1]).flatten = ((List.range n).map fun _ => (1 : Int)).map V.int := by
  rw [Int.toNat_natCast]
  induction n with
  | zero => rfl
  | succ n ih => rw [List.replicate_succ', List.flatten_append, ih, range_step, List.map_append]; rfl
abbrev tOnes : TE := tOp rRep (tLst (tCons (tC (V.int 1)) tNil)) (tVar 1)
theorem nest_tab2 {X0 : List Addr} {n : Nat} {σ : L2.St} {H : Hp} {Q : VK} (xs : ∀ a ∈ X0, H a ≠ none) (n6 : n ≤ 6) (e1 : σ[1]? = some (some (.int n)))
    (h : ∀ p qs H', Keep none X0 H H' → H p = none → (∀ q ∈ qs, H q = none) → Mx H' p qs (fm n fun _ _ => 1) → Q (.ref p) H') :
    tLc (iRng1 (tCons (tVar 1) tNil)) (gName 7) tYes tOnes [7] σ H Q := by
  refine ⟨_, e1, n, rfl, by omega, by omega, fun D hD => ?_⟩
  rw [Int.toNat_natCast]
  refine ⟨fun i m H' => m = n - i ∧ i ≤ n ∧ ∃ qs, Keep none X0 H H' ∧ (∀ q ∈ qs, H q = none) ∧ Mx H' D qs ((List.range i).map fun _ => (List.range n).map fun _ => 1), ⟨n, rfl, Nat.zero_le _, [], Keep.refl.new xs hD, fun _ h => (nomatch h), ⟨upd_same, rfl, fun i q r e => by simp at e, List.nodup_nil, by simp⟩⟩, ?_⟩
  rintro i m H' ⟨rfl, hi, qs, kp, fr, mx⟩
  by_cases hlt : i < n
  · refine .inr ⟨hlt, fun H'' => ∃ qs, Keep none X0 H H'' ∧ (∀ q ∈ qs, H q = none) ∧ Mx H'' D qs ((List.range (i + 1)).map fun _ => (List.range n).map fun _ => 1), fun H'' ⟨qs, q⟩ => ⟨n - (i + 1), by omega, rfl, hlt, qs, q⟩, ?_⟩
    rintro x H'' ⟨rfl, rfl⟩
    refine ⟨?_, ?_⟩
    · show ((σ.set 7 none).set 7 (some (V.int (0 + (i : Int))))).set 7 none = σ.set 7 none
      rw [List.set_set, List.set_set]
    · unfold tYes
      dsimp only
      rw [if_pos rfl]
      have e1' : ((σ.set 7 none).set 7 (some (V.int (0 + (i : Int)))))[1]? = some (some (.int n)) := by
        rw [List.getElem?_set_ne (by decide), List.getElem?_set_ne (by decide)]; exact e1
      refine ⟨by show 1 ≤ sizeLine; decide, fun T hT => ⟨_, e1', T, n, [V.int 1], rfl, rfl, upd_same, by omega, by omega, ?_, fun q hq => ?_⟩⟩
      · rw [Int.toNat_natCast]
        show 1 * n ≤ sizeLine
        exact Nat.le_trans (by omega : _ ≤ 6) (by decide)
      · have kT : Keep none X0 H (upd H'' T (.lst [V.int 1])) := kp.new xs hT
        have mT := mx.keepT (o := .lst [V.int 1]) hT
        have kq := kT.new (o := .lst ((List.replicate ((n : Int)).toNat [V.int 1]).flatten)) xs hq
        have mq := mT.keepT (o := .lst ((List.replicate ((n : Int)).toNat [V.int 1]).flatten)) hq
        refine ⟨qs.map V.ref, mq.top, by rw [List.length_map, mx.len, List.length_map, List.length_range]; exact Nat.lt_of_lt_of_le (by omega : i < 6) (by decide), qs ++ [q], kq.mut xs hD (.at_ mq.top), fun b hb => ?_, ?_⟩
        · rcases List.mem_append.mp hb with hb | hb
          · exact fr b hb
          · rw [List.mem_singleton.mp hb]
            exact kT.fresh (by simp [Ml]) hq
        · have s := mT.snoc (r := (List.range n).map fun _ => 1) hq
          rw [← ones_row, List.map_append] at s
          rw [range_step]
          exact s
  · have e : i = n := by omega
    subst e
    exact .inl ⟨Nat.le_refl _, h D qs H' kp hD fr mx⟩
abbrev AL (v : Int) : Prop := v = 2 ∨ v = 3 ∨ v = 4 ∨ v = 6 ∨ v = 0
structure Gq (f : Nat → Nat → Int) (a b : Nat) : Prop where
  dg : ∀ i, f i i = 1
  sy : ∀ i j, f i j = f j i
  of : ∀ i j, j < i → (i < a ∨ (i = a ∧ j < b)) → AL (f i j)
theorem gq0 : Gq (fun _ _ => 1) 0 0 := ⟨fun _ => rfl, fun _ _ => rfl, fun i j h z => by omega⟩
theorem Gq.next {f : Nat → Nat → Int} {a : Nat} (g : Gq f a a) : Gq f (a + 1) 0 := ⟨g.dg, g.sy, fun i j h z => g.of i j h (by omega)⟩
theorem Gq.sw {f : Nat → Nat → Int} {a b : Nat} (g : Gq f a b) (hb : b < a) {v : Int} (hv : AL v) : Gq (fsw f a b v) a (b + 1) := by
  refine ⟨fun i => ?_, fun i j => ?_, fun i j h z => ?_⟩
  · unfold fsw
    rw [if_neg (by omega)]
    exact g.dg i
  · unfold fsw
    by_cases h : (i = a ∧ j = b) ∨ (i = b ∧ j = a)
    · rw [if_pos h, if_pos (by omega)]
    · rw [if_neg h, if_neg (by omega)]
      exact g.sy i j
  · unfold fsw
    by_cases c : (i = a ∧ j = b) ∨ (i = b ∧ j = a)
    · rw [if_pos c]; exact hv
    · rw [if_neg c]
      exact g.of i j h (by omega)
theorem tab_gq {n : Nat} {f : Nat → Nat → Int} (n1 : 1 ≤ n) (n6 : n ≤ 6) (g : Gq f n 0) : Tab (fm n f) := by
  refine ⟨by rw [fm_len]; exact n1, by rw [fm_len]; exact n6, fun i hi => ?_, fun i hi => ?_, fun i j hi hj ne => ?_, fun i j hi hj => ?_⟩
  · rw [fm_len] at hi ⊢
    rw [fm_row hi, List.length_map, List.length_range]
  · rw [fm_len] at hi
    rw [fm_at hi hi]
    exact g.dg i
  · rw [fm_len] at hi hj
    rw [fm_at hi hj]
    by_cases c : j < i
    · exact g.of i j c (.inl hi)
    · rw [g.sy]
      exact g.of j i (by omega) (.inl hj)
  · rw [fm_len] at hi hj
    rw [fm_at hi hj, fm_at hj hi]
    exact g.sy i j
abbrev tSt (K : PySem.W.Frag) (i j : Nat) : TS := tAsg (tVar 6) (gSub (tOp (rIxL K) (tVar 3) (tVar i)) (tVar j) rSetL)
theorem st_tab {K : PySem.W.Frag} {σ : L2.St} {H : Hp} {D : Ends} {p : Addr} {qs : List Addr} {M : Mat} {i j a b : Nat} {v x y : Int} (hx : x = a) (hy : y = b) (mx : Mx H p qs M) (ha : a < M.length) (hb : b < (M.getD a []).length) (e3 : σ[3]? = some (some (V.ref p))) (ei : σ[i]? = some (some (V.int x))) (ej : σ[j]? = some (some (V.int y))) (e6 : σ[6]? = some (some (V.int v)))
    (h : ∀ H', (∀ x o, x ∉ qs → H x = some o → H' x = some o) → TbK H H' → Mx H' p qs (M.set a ((M.getD a []).set b v)) → D.nx σ H') : tSt K i j D σ H := by
  subst hx hy
  obtain ⟨q1, hq1⟩ : ∃ q, qs[a]? = some q := ⟨qs[a]'(by rw [mx.len]; exact ha), List.getElem?_eq_getElem _⟩
  have m1 : M[a]? = some (M.getD a []) := getD_get ha
  refine ⟨_, e6, _, e3, _, ei, p, qs.map V.ref, _, .ref q1, rfl, rfl, SqL.of mx.top, atI_nat (by rw [List.getElem?_map, hq1]; rfl), ?_⟩
  refine ⟨_, ej, q1, (M.getD a []).map V.int, _, b, rfl, rfl, mx.row a q1 _ hq1 m1, ixN_nat (j := b) (by rw [List.length_map]; exact hb), ?_⟩
  have e1 : ((M.getD a []).map V.int).set b (V.int v) = ((M.getD a []).set b v).map V.int := by rw [List.map_set]
  rw [e1]
  exact h _ (fun x o hx ex => by rw [upd_ne (fun z => hx (by rw [z]; exact List.mem_of_getElem? hq1))]; exact ex) (TbK.at_ (mx.row a q1 _ hq1 m1)) (mx.set hq1 _)
theorem st_two {K : PySem.W.Frag} {σ : L2.St} {H : Hp} {D : Ends} {p : Addr} {qs : List Addr} {n : Nat} {f : Nat → Nat → Int} {a b : Nat} {v x y : Int} (hx : x = a) (hy : y = b) (mx : Mx H p qs (fm n f)) (ha : a < n) (hb : b < n) (ne : a ≠ b) (e3 : σ[3]? = some (some (V.ref p))) (e4 : σ[4]? = some (some (V.int x))) (e5 : σ[5]? = some (some (V.int y))) (e6 : σ[6]? = some (some (V.int v)))
    (h : ∀ H', (∀ x o, x ∉ qs → H x = some o → H' x = some o) → TbK H H' → Mx H' p qs (fm n (fsw f a b v)) → D.nx σ H') : tSeq (tSt K 4 5) (tSt K 5 4) D σ H := by
  have ln := fm_len n f
  have l1 : ∀ {i}, i < n → ((fm n f).getD i []).length = n := fun {i} hi => by rw [fm_row hi, List.length_map, List.length_range]
  refine st_tab hx hy mx (by omega) (by rw [l1 ha]; exact hb) e3 e4 e5 e6 fun H1 k1 t1 m1 => ?_
  have gb : ((fm n f).set a (((fm n f).getD a []).set b v)).getD b [] = (fm n f).getD b [] := by
    rw [List.getD_eq_getElem?_getD, List.getElem?_set_ne ne, ← List.getD_eq_getElem?_getD]
  refine st_tab hy hx m1 (by rw [List.length_set]; omega) (by rw [gb, l1 hb]; exact ha) e3 e5 e4 e6 fun H2 k2 t2 m2 => ?_
  rw [gb, fm_sw ha hb ne] at m2
  exact h H2 (fun x o hx ex => k2 x o hx (k1 x o hx ex)) (t1.trans t2) m2
structure S9 (m : Mc) (n : Nat) (u2 : V) (p : Addr) (σ : L2.St) : Prop where
  len : σ.length = 8
  e0 : σ[0]? = some (some (.ref m.pm))
  e1 : σ[1]? = some (some (.int n))
  e2 : σ[2]? = some (some u2)
  e3 : σ[3]? = some (some (.ref p))
theorem S9.set {m : Mc} {n : Nat} {u2 : V} {p : Addr} {σ : L2.St} (h : S9 m n u2 p σ) {i : Nat} (hi : 4 ≤ i) (v : Option V) : S9 m n u2 p (σ.set i v) :=
  ⟨by rw [List.length_set]; exact h.len, by rw [List.getElem?_set_ne (by omega)]; exact h.e0, by rw [List.getElem?_set_ne (by omega)]; exact h.e1, by rw [List.getElem?_set_ne (by omega)]; exact h.e2, by rw [List.getElem?_set_ne (by omega)]; exact h.e3⟩
abbrev sS9 (X0 : List Addr) (zs : List Int) (k : Nat) : S := ⟨X0, [.mst, .no, .dat (.lst (zs.map .int)), .no, .no, .no, .no, .no], k⟩
theorem rep9 {K : PySem.W.Frag} {m : Mc} {n : Nat} {u2 : V} {zs : List Int} {p : Addr} {X0 : List Addr} {σ : L2.St} {H : Hp} {k : Nat} (xm : ∀ a ∈ X0, a ∉ Ml (some m)) (xs : ∀ a ∈ X0, H a ≠ none) (xt : ∀ a ∈ X0, ∀ ps, H a ≠ some (.tbl ps)) (h : S9 m n u2 p σ) (ru : Rl K (wo H (Ml (some m) ++ X0)) u2 (.lst (zs.map .int))) (hm : MAt (some m) H k) :
    Rep ⟨K, some m, X0, H, []⟩ (sS9 X0 zs k) σ H := by
  refine rep_of xm xs xt h.len.symm hm (fun i x e => ?_) (fun i p ds e => ?_)
  · match i, e with
    | 0, e => cases e; exact ⟨m, rfl, h.e0⟩
    | 1, e => cases e; trivial
    | 2, e => cases e; exact ⟨_, h.e2, ru⟩
    | 3, e => cases e; trivial
    | 4, e => cases e; trivial
    | 5, e => cases e; trivial
    | 6, e => cases e; trivial
    | 7, e => cases e; trivial
  · have mem := List.mem_of_getElem? e
    simp at mem
theorem le9 {K : PySem.W.Frag} {m : Mc} {n : Nat} {u2 : V} {zs : List Int} {p : Addr} {X0 : List Addr} {σ : L2.St} {H : Hp} {k : Nat} (xm : ∀ a ∈ X0, a ∉ Ml (some m)) (xs : ∀ a ∈ X0, H a ≠ none) (xt : ∀ a ∈ X0, ∀ ps, H a ≠ some (.tbl ps)) (h : S9 m n u2 p σ) (ru : Rl K (wo H (Ml (some m) ++ X0)) u2 (.lst (zs.map .int))) (hm : MAt (some m) H k) {t : DE} {R : D → Nat → Prop} {Q : VK}
    (ht : t (sS9 X0 zs k) R) (hq : ∀ d k', R d k' → ∀ v H', Keep (some m) X0 H H' → MAt (some m) H' k' → Rl K (wo H' (Ml (some m) ++ X0)) v d → Q v H') : exLE K t σ H Q :=
  ⟨⟨K, some m, X0, H, []⟩, rfl, _, R, rep9 xm xs xt h ru hm, ht, fun d k' hR v H' r a e => hq d k' hR v H' (Keep.rep r xm xs) r.m e⟩
abbrev t_k2 : DE := dIxN 2 (dCallM 0 sp__law_draw (dCons (dLenN 2) dNil))
def sp__law_tableS : DSp := fun ds k R => ∃ (n : Nat) (zs : List Int), ds = [.int n, .lst (zs.map .int)] ∧ 1 ≤ n ∧ n ≤ 6 ∧ zs ≠ [] ∧ zs.length ≤ 100 ∧ (∀ z ∈ zs, AL z) ∧ k < 90000000000 ∧ ∀ (T : Mat) (k' : Nat), Tab T → T.length = n → k ≤ k' → k' ≤ k + 40 → R (lM T) k'
end BW
set_option maxHeartbeats 1000000
namespace BW
open PySem L2 DL
def sp__law_wordL : DSp := fun ds k R => ∃ (n : Nat) (most : Int), ds = [.int n, .int most] ∧ 1 ≤ n ∧ n ≤ 6 ∧ 0 ≤ most ∧ most ≤ 60 ∧ k < 90000000000 ∧ ∀ w k', Wd n w → (w.length : Int) ≤ most → k ≤ k' → k' ≤ k + 200 → R (lI w) k'
abbrev t__law_wordL : DS := (dRet (dFr (dLc (iR1 (dCallM 0 sp__law_draw (dCons (dOp oAdd (dVar 2) (dC (.int 1))) dNil))) (dgN 3) dY (dOp oAdd (dC (.int 1)) (dCallM 0 sp__law_draw (dCons (dVar 1) dNil))) [3])))
theorem r__law_wordL (X : List Addr) (ds : List D) (k : Nat) (R : D → Nat → Prop) (h : sp__law_wordL ds k R) : t__law_wordL (En R) (St0 true 4 ds X k) := by
  obtain ⟨n, most, rfl, n1, n6, m0, m1, hk, h⟩ := h
  intro X
  refine ⟨rfl, _, rfl, _, rfl, by omega, by omega, by show k < _; omega, fun d d0 d1 => ?_⟩
  refine ⟨_, rfl, by omega, by omega, by rw [rngD_len]; exact l10k (by omega), fun p hp => ⟨fun j acc k' => ∃ w : List Int, acc = w.map D.int ∧ Wd n w ∧ w.length = j ∧ k ≤ k' ∧ k' ≤ k + 1 + j, ⟨[], rfl, (fun _ h => nomatch h), rfl, by show k ≤ k + 1; omega, by show k + 1 ≤ _; omega⟩, ?_, ?_⟩⟩
  · rintro j x acc k' hd ⟨w, rfl, hw, lw, k1, k2⟩ _
    obtain ⟨hj, rfl⟩ := rngD_at hd
    refine iteT ⟨rfl, _, rfl, n, rfl, by omega, by omega, by show k' < _; omega, fun z z0 z1 => ?_⟩
    refine ⟨w ++ [1 + z], by rw [List.map_append]; rfl, wd_app hw fun a ha => ?_, by rw [List.length_append, lw]; rfl, by show k ≤ k' + 1; omega, by show k' + 1 ≤ _; omega⟩
    rw [List.mem_singleton.mp ha]
    omega
  · rintro acc k' ⟨w, rfl, hw, lw, k1, k2⟩ _
    rw [rngD_len] at lw k2
    exact h w k' hw (by omega) k1 (by omega)
end BW
set_option maxHeartbeats 1000000
set_option maxHeartbeats 1000000
namespace BW
open PySem L2 DL
inductive Dm : Nat → D → Prop
  | non {n : Nat} : Dm n .non
  | bl {n : Nat} (b : Bool) : Dm n (.bl b)
  | int {n : Nat} (i : Int) : Dm n (.int i)
  | str {n : Nat} {x : PySem.Str} : PyData.strOk x = true → Dm n (.str x)
  | tup {n : Nat} {xs : List D} : xs.length ≤ 210000 → (n = 0 → xs.length ≤ 800) → (∀ x ∈ xs, Dm n x) → Dm (n + 1) (.tup xs)
theorem Dm.val {n : Nat} {d : D} (h : Dm n d) : Val (n + 1) d := by
  induction h with
  | non => exact .non
  | bl b => exact .bl b
  | int i => exact .int i
  | str h => exact .str h
  | @tup n xs h1 h2 h3 ih => exact .tup (by omega) (fun z => Nat.le_trans (h2 (by omega)) (by decide)) ih
theorem Dm.up {n : Nat} {d : D} (h : Dm n d) : ∀ {m : Nat}, n ≤ m → Dm m d := by
  induction h with
  | non => exact fun _ => .non
  | bl b => exact fun _ => .bl b
  | int i => exact fun _ => .int i
  | str h => exact fun _ => .str h
  | @tup n xs h1 h2 h3 ih =>
    intro m hm
    obtain ⟨m, rfl⟩ : ∃ k, m = k + 1 := ⟨m - 1, by omega⟩
    exact .tup h1 (fun z => h2 (by omega)) fun x hx => ih x hx (by omega)
end BW
set_option maxHeartbeats 1000000
namespace DL
open PySem L2
open PySem.W (Frag dataLe AllAlike Sortable)
open PySem.W (EachIs)
theorem each_vals : ∀ {zs : List (V × PyData)} {its : List Value}, Vals (zs.map (·.1)) its → EachIs (fun u (z : V × PyData) => RelV z.1 u) its zs
  | [], _, r => by cases r; exact .nil
  | z :: zs, _, r => by
    cases r with
    | cons h t => exact .cons h (each_vals t)
theorem vals_each : ∀ {zs : List (V × PyData)} {its : List Value}, EachIs (fun u (z : V × PyData) => RelV z.1 u) its zs → Vals (zs.map (·.1)) its
  | [], _, r => by cases r; exact .nil
  | z :: zs, _, r => by
    cases r with
    | cons h t => exact .cons h (vals_each t)
theorem each_reads {X : Cx} {pins : List (Addr × Obj)} {σ : L2.St} {H : Hp} {s : Shared} (I : L2.Inv X pins σ H s) : ∀ {zs : List (V × PyData)} {its : List Value}, Vals (zs.map (·.1)) its → (∀ z ∈ zs, Dp X.K H z.1 z.2) → EachIs (fun v (b : V × PyData) => ∃ as, Reads s.heap v b.2 as) its zs
  | [], _, r, _ => by cases r; exact .nil
  | z :: zs, _, r, h => by
    cases r with
    | cons h1 t => exact .cons (Dp.reads I z.2 _ _ (h z List.mem_cons_self) h1) (each_reads I t fun y hy => h y (List.mem_cons_of_mem _ hy))
theorem cr_sortedD {X : Cx} (hu : X.A.units + 64 < cLine) : CallR X (.builtin "sorted") (fun vs H Q => ∃ (a : Addr) (zs : List (V × PyData)), vs = [V.ref a] ∧ SqL X.K H a (zs.map (·.1)) ∧ (∀ z ∈ zs, Dp X.K H z.1 z.2) ∧ AllAlike (zs.map (·.2)) ∧ Sortable (zs.map (·.2)) ∧ zs.length ≤ sizeLine ∧ (∀ z ∈ zs, z.2.depth ≤ 60) ∧
    ∀ p, H p = none → Q (V.ref p) (upd H p (.lst ((zs.mergeSort (dataLe false (Prod.snd : V × PyData → PyData))).map (·.1))))) := by
  intro pins s σ H vs us Q I r h
  obtain ⟨a, zs, rfl, hs, hd, hal, hk, hl, hdep, q⟩ := h
  obtain ⟨its, rv, hli, _⟩ := I.list hs
  rw [Vals.ref1 r]
  refine PySem.W.sorted_data (R := fun u (z : V × PyData) => RelV z.1 u) (bs := zs) (enc := (Prod.snd : V × PyData → PyData)) hli.isList (each_vals rv) (each_reads I rv hd) hal hk hl (fun b hb => by have := hdep b hb; omega) fun out ho eo => ?_
  obtain ⟨ep, he'⟩ := PyProof.Rows.sortedAll_at s.heap its out.toArray
  have vo := vals_each eo
  have hlen : ((zs.mergeSort (dataLe false (Prod.snd : V × PyData → PyData))).map (·.1)).length ≤ sizeLine := by rw [List.length_map, List.length_mergeSort]; exact hl
  exact ⟨.ref _, upd H (s.heap.objs.size + 1) (.lst ((zs.mergeSort (dataLe false (Prod.snd : V × PyData → PyData))).map (·.1))), I.laid (t' := s.toks) (fun _ _ => PyProof.Rows.sortedAll_old) (Nat.le_succ _) ⟨hlen, out, ep, vo, he'⟩, rfl, q _ (I.hok.fresh (Nat.le_succ _))⟩
end DL
namespace DL
open PySem L2
open PySem.W (Frag dataLe AllAlike Sortable)
abbrev dSorted (t : DE) : DA := fun s Q => t s fun d k => ∃ ds, d = .lst ds ∧ (∀ x ∈ ds, x.plain = true ∧ x.py.depth ≤ 60) ∧ AllAlike (ds.map D.py) ∧ Sortable (ds.map D.py) ∧ ds.length ≤ lim ∧ Q (ds.mergeSort (dataLe false D.py)) k
theorem RlA.zip_mem {K : Frag} {H : Hp} : ∀ {vs : List V} {ds : List D}, RlA K H vs ds → ∀ z ∈ vs.zip ds, Rl K H z.1 z.2
  | _, _, .nil, z, h => by cases h
  | _, _, .cons h1 h2, z, h => by
    rcases List.mem_cons.mp h with rfl | h
    · exact h1
    · exact RlA.zip_mem h2 z h
theorem RlA.of_zip {K : Frag} {H : Hp} : ∀ {l : List (V × D)}, (∀ z ∈ l, Rl K H z.1 z.2) → RlA K H (l.map (·.1)) (l.map (·.2))
  | [], _ => .nil
  | z :: r, h => .cons (h z List.mem_cons_self) (RlA.of_zip fun y hy => h y (List.mem_cons_of_mem _ hy))
section
variable {X : Cx} {c : C} {p pos : Pos}
theorem pdf_sorted (hK : c.K = X.K) {j : Nat} (hr : Room j X.A) (hm : X.mg "sorted" = none) {e : Expr} {t : DE} (h : PE X e (LE c t)) (hg : Gl X "sorted" := by rfl) (hs : starEach [e] X.env = (false, eval e X.env) :: starEach [] X.env := by rfl) (hp : (backTo pos (starEach [] X.env)).any (·.1) = false := by rfl) :
    PE X (.Call (.Name "sorted" p) [e] [] pos) (LF c (dSorted t)) :=
  (pe_callB (cr_sortedD hr.units) hg hm (by first | exact PySem.boot_sorted | exact PyProof.Rows.boot_sorted | rfl) (pa_cons h pa_nil hs) (he := hs) (hpl := hp)).weak fun σ H Q ⟨s, R, rp, q, f⟩ => ⟨s, _, rp, q, fun d k ⟨ds, hd, h1, hal, hk, hl, h2⟩ v H1 r1 a1 e1 => by
    subst hd
    obtain ⟨a, vs, rfl, h, r⟩ := e1.lstE
    have ln := r.len
    let zd : List (V × D) := vs.zip ds
    let g : V × D → V × PyData := fun z => (z.1, z.2.py)
    have f1 : zd.map (·.1) = vs := List.map_fst_zip (by omega)
    have f2 : zd.map (·.2) = ds := List.map_snd_zip (by omega)
    have g1 : (zd.map g).map (·.1) = vs := by rw [List.map_map]; exact f1
    have g2 : (zd.map g).map (·.2) = ds.map D.py := by rw [List.map_map, ← f2, List.map_map]; rfl
    have mem := r.zip_mem
    refine ⟨a, zd.map g, rfl, ?_, ?_, ?_, ?_, ?_, ?_, fun y hy => ?_⟩
    · rw [g1]; exact hK ▸ SqL.of (wo_sub _ _ _ _ h)
    · intro z hz
      obtain ⟨z0, hz0, rfl⟩ := List.mem_map.mp hz
      have hz2 : z0.2 ∈ ds := by rw [← f2]; exact List.mem_map.mpr ⟨z0, hz0, rfl⟩
      exact (mem z0 hz0).mono (wo_sub _ _) |> fun z => hK ▸ z.dp z0.2 (h1 z0.2 hz2).1
    · rw [g2]; exact hal
    · rw [g2]; exact hk
    · rw [List.length_map]
      have : zd.length = ds.length := by rw [← f2, List.length_map]
      rw [this]; exact lim_le hl
    · intro z hz
      obtain ⟨z0, hz0, rfl⟩ := List.mem_map.mp hz
      have hz2 : z0.2 ∈ ds := by rw [← f2]; exact List.mem_map.mpr ⟨z0, hz0, rfl⟩
      exact (h1 z0.2 hz2).2
    · have e1 : ((zd.map g).mergeSort (dataLe false (Prod.snd : V × PyData → PyData))).map (·.1) = (zd.mergeSort (dataLe false fun z : V × D => z.2.py)).map (·.1) := by
        rw [← PySem.W.sort_maps (r := dataLe false fun z : V × D => z.2.py) g (fun a _ b _ => rfl), List.map_map]
        rfl
      have e2 : ds.mergeSort (dataLe false D.py) = (zd.mergeSort (dataLe false fun z : V × D => z.2.py)).map (·.2) := by
        have q := PySem.W.sort_maps (r := dataLe false fun z : V × D => z.2.py) (s := dataLe false D.py) (l := zd) (fun z : V × D => z.2) (fun a _ b _ => rfl)
        rw [f2] at q
        exact q.symm
      rw [e1]
      rw [e2] at h2
      exact f _ k h2 y _ (NewL.mk' r1 a1 (RlA.of_zip fun z hz => mem z (List.mem_mergeSort.mp hz)) hy)⟩
end
end DL
set_option maxHeartbeats 1000000
namespace DL
open PySem PySem.Spec PyProof.Rows L2 LamX
open PySem.W (Frag dataLe AllAlike Sortable EachIs KeyPure)
abbrev kfScope : Scope := { kind := .function, names := [("letters", .local), ("len", .globalImplicit)], isGenerator := false, isCoroutine := false }
abbrev kfArgs (p1 : Pos) : Arguments := { posonlyargs := [], args := [{ arg := "letters", annotation := none, pos := p1 }], vararg := none, kwonlyargs := [], kw_defaults := [], kwarg := none, defaults := [] }
abbrev kfBody (q1 q2 q3 q4 q5 : Pos) : Expr := .Tuple [.Call (.Name "len" q1) [.Name "letters" q2] [] q3, .Name "letters" q4] 0 q5
theorem kf_scope : FnScope ["letters"] ["letters"] kfScope := ⟨rfl, rfl, rfl, by decide +kernel, rfl, by decide +kernel, by decide +kernel⟩
section
variable {X : Cx} {pins : List (Addr × Obj)} {σ : L2.St} {H : Hp} {s : Shared} {q : PySem.Str} {f c' a : Addr} {pm ctv : Value} {p1 q1 q2 q3 q4 q5 : Pos} {its : Array Value} {ds : List PyData}
theorem kf_turn (I : Inv X pins σ H s) (hr : Room 2 X.A) (hf : s.heap.get? f = some (PySem.W.kla_obj "<lambda>" q (kfArgs p1) (kfBody q1 q2 q3 q4 q5) kfScope [] pm c' ctv)) (hc : H c' = some (CodeO c' q)) (hm : X.mg "len" = none) (ht : IsTup s.heap a its) (hn : its.size ≤ 1000000) (rd : Reads s.heap (.ref a) (.tuple ds) []) (hds : ds.length = its.size) :
    wpAny (model X.prog X.w) X.A.in1.in1 (call (.ref f) [.ref a]) (KeyPure (.tuple [.int its.size, .tuple ds]) s) (fun _ _ => False) s := by
  obtain ⟨⟨oc, vs, t, hoc, hdc, hvc⟩, _, _⟩ := I.hok c' _ hc
  have e0 : Env0 X.prog X.w X.K X.mg X.base X.A.in1.in1 X.stack s H := I.env0.in1.in1
  have hd : X.A.in1.in1.handled = none := hr.hd
  refine wpAny_call ?_
  refine codeAny_mono (R := fun r s' => ∃ u, r = .ok (.ret u) ∧ KeyPure (.tuple [.int its.size, .tuple ds]) s u s') ?_ ?_
  · refine PySem.W.kla_callFunE (by have := hr.dp; show X.A.depth < _; omega) hf rfl rfl rfl rfl ⟨c', oc, vs, t, rfl, hoc, hdc, hvc⟩ ?_
    have hb : bindArgs (PySem.W.kla_fn "<lambda>" q (kfArgs p1) (kfBody q1 q2 q3 q4 q5) kfScope [] pm (.ref c') ctv) ⟨[Value.ref a], []⟩ = pure [(("letters" : PySem.Str), Value.ref a)] := rfl
    rw [hb]
    refine wpAny_pure (wpAny_newFunctionEnv_cells rfl (fun y hy => ?_) fun env he s1 x => ?_)
    · rcases List.mem_singleton.mp hy with rfl
      exact .inl rfl
    subst he
    refine ⟨I.nolimit.keeps x.toInCall.keep, ?_⟩
    have J := inv_start (CX := CX0) (P := X.prog) (w := X.w) (K := X.K) (mg := X.mg) (base := X.base) (qual := q) (f := f) (cd := .ref c') (E := C8.E0) (us := [.ref a]) (vs := [.ref a]) kf_scope hd e0 rfl (.cons rfl .nil) x
    obtain ⟨h1, tk, rfl⟩ := x.toInCall.same
    have kp : ∀ b o, s.heap.get? b = some o → h1.get? b = some o := x.toInCall.keep
    refine PySem.W.kla_codeExpr ?_
    have go : wpAny (model X.prog X.w) (cxOf CX0 X.prog X.w X.K X.mg X.base ["letters"] q kfScope f (.ref c') X.A.in1.in1 X.stack s H C8.E0).A (eval (kfBody q1 q2 q3 q4 q5) (cxOf CX0 X.prog X.w X.K X.mg X.base ["letters"] q kfScope f (.ref c') X.A.in1.in1 X.stack s H C8.E0).env)
        (fun u s' => KeyPure (.tuple [.int its.size, .tuple ds]) s u s') (fun _ _ => False) { s with heap := h1, toks := tk } := by
      obtain ⟨m, hn1, hl⟩ := J.loc
      obtain ⟨u, ru, lk⟩ := hl 0 "letters" (.ref a) rfl rfl (.inl rfl)
      obtain rfl : u = Value.ref a := ru
      have lm : m "letters" = some (.ref a) := by
        rcases lk with ⟨_, z⟩ | ⟨z, _⟩
        · exact z
        · rcases z with z | z
          · exact absurd (show (some NameKind.local : Option NameKind) = some .cell from z) (by decide)
          · exact absurd (show (some NameKind.local : Option NameKind) = some .free from z) (by decide)
      have name : ∀ {pos : Pos} {k2 : Nat} {Q : Value → Shared → Prop} {E : Value → Shared → Prop}, Q (.ref a) { s with heap := h1, toks := k2 } → wpAny (model X.prog X.w) (cxOf CX0 X.prog X.w X.K X.mg X.base ["letters"] q kfScope f (.ref c') X.A.in1.in1 X.stack s H C8.E0).A (eval (.Name "letters" pos) (cxOf CX0 X.prog X.w X.K X.mg X.base ["letters"] q kfScope f (.ref c') X.A.in1.in1 X.stack s H C8.E0).env) Q E { s with heap := h1, toks := k2 } :=
        fun {pos k2 Q E} h => wpAny_Name (wpAny_loadName_local J.ok.kind rfl hn1 lm h) (by decide)
      have ht1 : IsTup h1 a its := ht.keeps kp
      refine wpAny_Tuple (wpAny_items_cons (wpAny_Call_Name_kw (ld_blt (X := cxOf CX0 X.prog X.w X.K X.mg X.base ["letters"] q kfScope f (.ref c') X.A.in1.in1 X.stack s H C8.E0) J rfl hm PySem.boot_len ?_)))
      refine PyProof.Rows.callWith_builtin1 (PyProof.Rows.args_cons (name (PyProof.Rows.args_nil ?_)))
      refine PyProof.Rows.len_tuple ht1 (by omega) ?_
      refine wpAny_items_cons (name (wpAny_items_nil ⟨by size_fits, ?_⟩))
      refine ⟨_, _, rfl, fun b o e => Heap.get?_push_of_some _ (kp b o e), ?_⟩
      refine .tuple (as := []) (Heap.get?_push_size _ rfl) rfl rfl ?_
      exact .cons (as := []) (bs := []) (.int _ _) (.cons (as := []) (bs := []) (PyProof.Rows.Reads.keeps (fun b o e => Heap.get?_push_of_some _ (kp b o e)) rd) .nil)
    exact wpAny_mono go (fun u s' h => ⟨u, rfl, h⟩) fun _ _ z => z.elim
  · rintro r s' ⟨u, rfl, h⟩
    exact h
end
end DL
set_option maxHeartbeats 1000000
namespace DL
open PySem PySem.Spec PyProof.Rows L2 LamX
open PySem.W (Frag dataLe AllAlike Sortable EachIs KeyPure)
def kLen : D → PyData
  | .tup xs => D.py (.tup [.int xs.length, .tup xs])
  | _ => .none
abbrev tIs (w : List Int) : D := .tup (w.map D.int)
theorem kLen_tI (w : List Int) : kLen (tIs w) = .tuple [.int w.length, .tuple (w.map PyData.int)] := by
  show PyData.tuple (pyA [.int ((w.map D.int).length : Int), .tup (w.map D.int)]) = _
  rw [List.length_map]
  show PyData.tuple [.int w.length, .tuple (pyA (w.map D.int))] = _
  rw [py_ints]
abbrev dSortLen (t : DE) : DA := fun s Q => t s fun d k => ∃ ws : List (List Int), d = .lst (ws.map tIs) ∧ ws.length ≤ lim ∧ (∀ w ∈ ws, w.length ≤ 1000) ∧ Q ((ws.map tIs).mergeSort (dataLe false kLen)) k
theorem reads_ints {h : Heap} : ∀ {w : List Int} {us : List Value}, Vals (w.map V.int) us → ReadsAll h us (w.map PyData.int) []
  | [], _, r => by cases r; exact .nil
  | i :: w, _, r => by
    cases r with
    | cons h1 t =>
      obtain ⟨tk, rfl⟩ := h1
      exact .cons (as := []) (bs := []) (.int _ _) (reads_ints t)
theorem alike_kl (a b : List Int) : PySem.W.alike (kLen (tIs a)) (kLen (tIs b)) = true := by
  rw [kLen_tI, kLen_tI]
  simp only [PySem.W.alike, PySem.W.alikeAll, PySem.W.alike_ints, Bool.and_self, Bool.and_true]
theorem allAlike_kl {l : List PyData} (h : ∀ d ∈ l, ∃ w, d = kLen (tIs w)) : AllAlike l := by
  obtain ⟨ws, rfl⟩ : ∃ ws : List (List Int), l = ws.map fun w => kLen (tIs w) := by
    induction l with
    | nil => exact ⟨[], rfl⟩
    | cons d l ih =>
      obtain ⟨ws, rfl⟩ := ih fun x hx => h x (List.mem_cons_of_mem _ hx)
      obtain ⟨w, rfl⟩ := h d List.mem_cons_self
      exact ⟨w :: ws, rfl⟩
  exact AllAlike.of fun a b => alike_kl a b
theorem sortable_kl {l : List PyData} (h : ∀ d ∈ l, ∃ w, d = kLen (tIs w)) : Sortable l := by
  obtain ⟨ws, rfl⟩ : ∃ ws : List (List Int), l = ws.map fun w => kLen (tIs w) := by
    induction l with
    | nil => exact ⟨[], rfl⟩
    | cons d l ih =>
      obtain ⟨ws, rfl⟩ := ih fun x hx => h x (List.mem_cons_of_mem _ hx)
      obtain ⟨w, rfl⟩ := h d List.mem_cons_self
      exact ⟨w :: ws, rfl⟩
  exact Sortable.tuples fun w => ⟨_, _, kLen_tI w⟩
theorem depth_kl (w : List Int) : (kLen (tIs w)).depth ≤ 10 := by
  rw [kLen_tI]
  simp [PyData.depth, PyData.depthAll, PySem.W.depth_ints]
section
variable {X : Cx} {c : C} {T : List (Addr × PySem.Str)} {j : Nat} {cc Pt : Addr} {q : PySem.Str} {e : Expr} {t : DE} {p pos kpos lpos p1 q1 q2 q3 q4 q5 : Pos}
theorem pdf_kf (hK : c.K = X.K) (fr : LwC c T) (it : InT T Pt q) (TB : TabB X.base X.mg cc Pt) (hcode : X.env.code = .ref cc) (hr : Room j X.A) (hj : 2 ≤ j) (hms : X.mg "sorted" = none) (hml : X.mg "len" = none) (he : PE X e (LE c t))
    (hq : X.env.qual ++ "<lambda>" = q := by rfl) (hg : Gl X "sorted" := by rfl) (hs : starEach [e] X.env = (false, eval e X.env) :: starEach [] X.env := by rfl) (hp : (backTo pos (starEach [e] X.env)).any (·.1) = false := by rfl) (hb : backTo pos (starEach [e] X.env) = (false, eval e X.env) :: backTo pos (starEach [] X.env) := by rfl) :
    PE X (.Call (.Name "sorted" p) [e] [⟨some "key", .Lambda (kfArgs p1) (kfBody q1 q2 q3 q4 q5) kfScope lpos, kpos⟩] pos) (LF c (dSortLen t)) := by
  obtain ⟨⟨m, hM, hT⟩, h0⟩ := fr
  refine ⟨fun pins s σ H Q I ⟨st, R, rp, hq1, fin⟩ => ?_⟩
  refine wpAny_Call_Name_kw (ld_blt I hg hms (by first | exact PySem.boot_sorted | exact PyProof.Rows.boot_sorted | rfl) ?_)
  refine PyProof.Rows.callWith_kw (thn ((pa_cons he pa_nil hs).run pos pins s σ H (fun vs H1 => ∃ d k, (∃ ws : List (List Int), d = D.lst (ws.map tIs) ∧ ws.length ≤ lim ∧ (∀ w ∈ ws, w.length ≤ 1000) ∧ R ((ws.map tIs).mergeSort (dataLe false kLen)) k) ∧ Rep c (st.at k) σ H1 ∧ AdvE c st.X H H1 ∧ Rl c.K (c.hid st.X H1) (vs.headD .non) d ∧ vs = [vs.headD .non]) I ⟨st, _, rp, hq1, fun d k h v H1 r1 a1 e1 => ⟨d, k, h, r1, a1, e1, rfl⟩⟩) fun us s1 ⟨vs, H1, I1, r1, hh⟩ => ?_) hb hp
  obtain ⟨d, k, ⟨ws, rfl, hl, hw, hR⟩, rp1, ad1, e1, ev⟩ := hh
  generalize hv : vs.headD V.non = v at e1 ev
  subst ev
  obtain ⟨a, xs, rfl, ha, rx⟩ := e1.lstE
  rw [Vals.ref1 r1]
  have htabs : Tabs T H1 := by
    have z := rp1.m
    rw [hM] at z
    obtain ⟨_, _, _, _, _, tb⟩ := z
    rw [← hT]; exact tb
  show wpAny _ _ (evalAll [do let v ← eval (.Lambda (kfArgs p1) (kfBody q1 q2 q3 q4 q5) kfScope lpos) X.env; standAt pos; pure v]) _ _ s1
  refine wpAny_evalAll_cons (wpAny_bind (lam_make2 I1 TB hcode (by rw [hq]; exact it.mem) (fun p hp e => by rw [hq]; exact it.uni p hp e) htabs rfl (fun y hy e => ?_) fun f c' pm ctv H2 s2 I2 eN T2 hf hfn hfr hco => wpAny_bind (wpAny_standAt (wpAny_pure (wpAny_evalAll_nil ?_)))))
  · simp at hy
    rcases hy with rfl | rfl <;> cases e
  · obtain ⟨rp2, ad2⟩ := rp1.extN hM h0 eN (by rw [hT]; exact T2)
    have ha2 : H2 a = some (.lst xs) := by
      obtain ⟨_, _, nt⟩ := wo_all ha
      exact eN _ _ (wo_sub _ _ _ _ ha) nt
    have rx2 : RlA c.K (c.hid st.X H2) xs (ws.map tIs) := rx.mono ad2.sub
    have ln := rx2.len
    have clo : cloFrom X.env.cells kfScope.names [] = [] := rfl
    rw [clo] at hf
    let zd : List (V × D) := xs.zip (ws.map tIs)
    let g : V × D → V × PyData := fun z => (z.1, kLen z.2)
    have f1 : zd.map (·.1) = xs := List.map_fst_zip (by omega)
    have f2 : zd.map (·.2) = ws.map tIs := List.map_snd_zip (by omega)
    have g1 : (zd.map g).map (·.1) = xs := by rw [List.map_map]; exact f1
    have g2 : (zd.map g).map (·.2) = (ws.map tIs).map kLen := by rw [List.map_map, ← f2, List.map_map]; rfl
    have mem := rx2.zip_mem
    have kls : ∀ d ∈ (ws.map tIs).map kLen, ∃ w, d = kLen (tIs w) := fun d hd => by
      obtain ⟨d1, h1, rfl⟩ := List.mem_map.mp hd
      obtain ⟨w, h2, rfl⟩ := List.mem_map.mp h1
      exact ⟨w, rfl⟩
    have lz : (zd.map g).length = ws.length := by
      rw [List.length_map]
      have : zd.length = (ws.map tIs).length := by rw [← f2, List.length_map]
      rw [this, List.length_map]
    obtain ⟨its, rv, hli, _⟩ := I2.list (SqL.of ha2)
    have rv' : Vals ((zd.map g).map (·.1)) its := by rw [g1]; exact rv
    refine PySem.W.sorted_key_data (b := false) (R := fun u (z : V × PyData) => RelV z.1 u) (bs := zd.map g) (Prod.snd : V × PyData → PyData) hli.isList (each_vals rv') (by rw [g2]; exact allAlike_kl kls) (by rw [g2]; exact sortable_kl kls) (by rw [lz]; exact lim_le hl) (fun x hx => ?_) (PyProof.Rows.ksk_s1 _ _) (fun _ => PyProof.Rows.ksk_l1 _ _) (fun _ => PyProof.Rows.ksk_t1 _ _) (fun u x hx hz h tk kp => ?_) fun out co h' tk kp fr0 hD ho eo => ?_
    · obtain ⟨z0, hz0, rfl⟩ := List.mem_map.mp hx
      have hz2 : z0.2 ∈ ws.map tIs := by rw [← f2]; exact List.mem_map.mpr ⟨z0, hz0, rfl⟩
      obtain ⟨w, _, hw2⟩ := List.mem_map.mp hz2
      have hu := hr.units
      have : (kLen z0.2).depth ≤ 10 := by rw [← hw2]; exact depth_kl w
      show X.A.units + 2 + (kLen z0.2).depth < cLine
      omega
    · obtain ⟨z0, hz0, rfl⟩ := List.mem_map.mp hz
      have hz2 : z0.2 ∈ ws.map tIs := by rw [← f2]; exact List.mem_map.mpr ⟨z0, hz0, rfl⟩
      obtain ⟨w, hwm, hw2⟩ := List.mem_map.mp hz2
      have hrl := mem z0 hz0
      rw [← hw2] at hrl
      obtain ⟨b, ys, eb, hb1, hb2⟩ := hrl.tupE
      have hx : RelV z0.1 u := hx
      rw [eb] at hx
      obtain rfl : u = Value.ref b := hx
      have hys : ys = w.map V.int := hb2.ints_v
      subst hys
      have I3 : L2.Inv X pins σ H2 { s2 with heap := h, toks := tk } := I2.kept kp
      obtain ⟨us, r3, t3, z3⟩ := I3.tuple (hK ▸ (wo_sub _ _).st hb1)
      have hsz : us.toArray.size = w.length := by rw [List.size_toArray, ← r3.length, List.length_map]
      have rd : Reads h (.ref b) (.tuple (w.map PyData.int)) [] := by
        obtain ⟨o, ho, hc, n, hd⟩ := t3
        exact .tuple ho hc hd (reads_ints r3)
      have q := kf_turn I3 (hr.mono hj) (kp _ _ hf) hco hml t3 (by rw [hsz]; have := hw w hwm; omega) rd (by rw [List.length_map, hsz])
      show wpAny _ _ _ (KeyPure (kLen z0.2) _) _ _
      rw [← hw2, kLen_tI]
      rw [hsz] at q
      exact q
    · have vo := vals_each eo
      have e1 : ((zd.map g).mergeSort (dataLe false (Prod.snd : V × PyData → PyData))).map (·.1) = (zd.mergeSort (dataLe false fun z : V × D => kLen z.2)).map (·.1) := by
        rw [← PySem.W.sort_maps (r := dataLe false fun z : V × D => kLen z.2) g (fun a _ b _ => rfl), List.map_map]
        rfl
      have e2 : (ws.map tIs).mergeSort (dataLe false kLen) = (zd.mergeSort (dataLe false fun z : V × D => kLen z.2)).map (·.2) := by
        have q := PySem.W.sort_maps (r := dataLe false fun z : V × D => kLen z.2) (s := dataLe false kLen) (l := zd) (fun z : V × D => z.2) (fun a _ b _ => rfl)
        rw [f2] at q
        exact q.symm
      rw [e1] at vo
      rw [e2] at hR
      have hlen : ((zd.mergeSort (dataLe false fun z : V × D => kLen z.2)).map (·.1)).length ≤ sizeLine := by
        rw [List.length_map, List.length_mergeSort]
        have : zd.length = ws.length := by rw [← lz, List.length_map]
        rw [this]; exact lim_le hl
      refine ⟨.ref _, upd H2 (s2.heap.objs.size + 1) (.lst ((zd.mergeSort (dataLe false fun z : V × D => kLen z.2)).map (·.1))), I2.laid (t' := tk) kp (Nat.le_succ _) ⟨hlen, out, co, vo, hD⟩, rfl, ?_⟩
      have rk : Rep c (st.at k) σ H2 := rp2
      exact fin _ k hR _ _ (NewL.mk' rk (ad1.trans ad2) (RlA.of_zip fun z hz => mem z (List.mem_mergeSort.mp hz)) (I2.hok.fresh (Nat.le_succ _)))
end
end DL
set_option maxHeartbeats 1000000
namespace DL
open PySem L2
open PySem.W (Frag)
end DL
set_option maxHeartbeats 1000000
set_option maxHeartbeats 1000000
set_option maxHeartbeats 1000000
namespace BW
open PySem L2 DL
open PySem.W (dataLe AllAlike Sortable)
def chs : Nat → List (List Int)
  | 0 => [[]]
  | n + 1 => chs n ++ (chs n).map fun c => c ++ [(n : Int) + 1]
theorem chs_len : ∀ n, (chs n).length = 2 ^ n
  | 0 => rfl
  | n + 1 => by
    show (chs n ++ (chs n).map fun c => c ++ [(n : Int) + 1]).length = _
    rw [List.length_append, List.length_map, chs_len n, Nat.pow_succ]; omega
theorem chs_wd : ∀ (n : Nat), ∀ c ∈ chs n, Wd n c ∧ c.length ≤ n
  | 0, c, h => by
    rw [List.mem_singleton.mp h]
    exact ⟨fun a ha => (nomatch ha), Nat.le_refl _⟩
  | n + 1, c, h => by
    rcases List.mem_append.mp h with h | h
    · obtain ⟨a, b⟩ := chs_wd n c h
      exact ⟨fun z hz => by have := a z hz; omega, by omega⟩
    · obtain ⟨d, hd, rfl⟩ := List.mem_map.mp h
      obtain ⟨a, b⟩ := chs_wd n d hd
      refine ⟨fun z hz => ?_, by rw [List.length_append]; show d.length + 1 ≤ _; omega⟩
      rcases List.mem_append.mp hz with hz | hz
      · have := a z hz; omega
      · rw [List.mem_singleton.mp hz]; omega
def chD (n : Nat) : List D := ((chs n).map tIs).mergeSort (dataLe false kLen)
theorem pow6 {n : Nat} (h : n ≤ 6) : 2 ^ n ≤ 64 := by
  have : (2 : Nat) ^ n ≤ 2 ^ 6 := Nat.pow_le_pow_right (by decide) h
  omega
def sp_fewer_first : DSp := fun ds k R => ∃ ws : List (List Int), ds = [.lst (ws.map tIs)] ∧ ws.length ≤ lim ∧ (∀ w ∈ ws, w.length ≤ 1000) ∧ R (.lst ((ws.map tIs).mergeSort (dataLe false kLen))) k
def sp_choices_of (BC : Addr) : DSp := fun ds k R => ∃ T, ds = [bnd BC T] ∧ Tab T ∧ R (.tup (chD T.length)) k
abbrev tA_fewer_first (BC : Addr) (K : PySem.W.Frag) : DS := (dRet (dFr (dSortLen (dVar 0))))
abbrev tA_choices_of (BC : Addr) (K : PySem.W.Frag) : DS := (dSeq (dSet 1 (dFr (dLs (dCons (dTup dNil) dNil))))
  (dSeq (dFor (iR2 (dC (.int 1)) (dOp oAdd (dLenO BC (sp_len_Bonds BC) (dVar 0)) (dC (.int 1)))) (dgN 2) (dSet 1 (dOp oAdd (dVar 1) (dFr (dLc (iLst (dVar 1)) (dgN 3) dY (dTup (dStar (dVar 3) (dCons (dVar 2) dNil))) [3])))))
  (dRet (dTupOf (dCallT sp_fewer_first (dCons (dVar 1) dNil))))))
theorem rA_fewer_first (BC : Addr) (K : PySem.W.Frag) (X : List Addr) (ds : List D) (k : Nat) (R : D → Nat → Prop) (h : sp_fewer_first ds k R) : tA_fewer_first BC K (En R) (St0 false 1 ds X k) := by
  obtain ⟨ws, rfl, h1, h2, h⟩ := h
  exact fun X' => ⟨_, rfl, ws, rfl, h1, h2, h⟩
theorem ext_step {n : Nat} {ws : List (List Int)} {j : Nat} {x : D} {acc : List D} {a : Int} (hx : (ws.map tIs)[j]? = some x) (e : acc = ((ws.take j).map fun c => c ++ [a]).map tIs) : ∃ c, c ∈ ws ∧ x = tIs c ∧ acc ++ [D.tup (c.map D.int ++ [D.int a])] = ((ws.take (j + 1)).map fun c => c ++ [a]).map tIs := by
  rw [List.getElem?_map] at hx
  obtain ⟨c, hc, rfl⟩ := Option.map_eq_some_iff.mp hx
  refine ⟨c, List.mem_of_getElem? hc, rfl, ?_⟩
  rw [e, List.take_succ, hc]
  show _ = List.map tIs (List.map (fun c => c ++ [a]) (List.take j ws ++ [c]))
  rw [List.map_append, List.map_append]
  show _ ++ [D.tup (c.map D.int ++ [D.int a])] = _ ++ [D.tup ((c ++ [a]).map D.int)]
  rw [List.map_append]
  rfl
theorem rA_choices_of (BC : Addr) (K : PySem.W.Frag) (X : List Addr) (ds : List D) (k : Nat) (R : D → Nat → Prop) (h : sp_choices_of BC ds k R) : tA_choices_of BC K (En R) (St0 false 4 ds X k) := by
  obtain ⟨T, rfl, ht, h⟩ := h
  have hT := ht.hi
  refine ⟨by show 0 ≤ lim; decide, by show 1 ≤ lim; decide, ?_⟩
  refine ⟨_, rfl, ⟨_, _, rfl⟩, T, rfl, hT, T.length, rfl, by omega, _, _, rfl, rfl, ⟨by omega, by omega, by omega, by omega⟩, ?_⟩
  have en : ((T.length : Int) + 1 - 1).toNat = T.length := by omega
  rw [en]
  refine ⟨fun i s' => ∃ (x2 x3 : Sl), i ≤ T.length ∧ s' = ⟨X, [.dat (bnd BC T), .dat (.lst ((chs i).map tIs)), x2, x3], k⟩, ⟨_, _, Nat.zero_le _, rfl⟩, ?_, ?_⟩
  · rintro i d s' hd ⟨x2, x3, hi, rfl⟩
    obtain ⟨hj, rfl⟩ := rngD_at hd
    have l64 := pow6 (n := i) (by omega)
    refine ⟨_, rfl, _, rfl, _, rfl, by rw [List.length_map, chs_len]; exact l10k (by omega), fun p hp => ⟨fun j acc k' => k' = k ∧ acc = (((chs i).take j).map fun c => c ++ [1 + (i : Int)]).map tIs, ⟨rfl, rfl⟩, ?_, ?_⟩⟩
    · rintro j x acc k' hx ⟨rfl, e⟩ _
      obtain ⟨c, hc, rfl, e2⟩ := ext_step (n := i) (a := 1 + (i : Int)) hx e
      have b := (chs_wd i c hc).2
      refine iteT ⟨_, rfl, _, rfl, _, rfl, ?_, rfl, e2⟩
      show (c.map D.int ++ [_]).length ≤ lim
      rw [List.length_append, List.length_map]
      exact l10k (by show c.length + 1 ≤ _; omega)
    · rintro acc k' ⟨rfl, rfl⟩ _
      rw [List.length_map, List.take_length]
      refine ⟨?_, .dat (.int (1 + (i : Int))), x3, by omega, ?_⟩
      · rw [List.length_map, List.length_map, List.length_map, chs_len]
        exact l10k (by omega)
      · have e : (chs i).map tIs ++ ((chs i).map fun c => c ++ [1 + (i : Int)]).map tIs = (chs (i + 1)).map tIs := by
          show _ = ((chs i) ++ (chs i).map fun c => c ++ [(i : Int) + 1]).map tIs
          rw [List.map_append, Int.add_comm 1 (i : Int)]
        show (⟨X, [.dat (bnd BC T), .dat (.lst ((chs i).map tIs ++ ((chs i).map fun c => c ++ [1 + (i : Int)]).map tIs)), .dat (.int (1 + (i : Int))), x3], k'⟩ : S) = _
        rw [e]
  · rintro s' ⟨x2, x3, hi, rfl⟩
    rw [rngD_len]
    have l64 := pow6 (n := T.length) (by omega)
    intro X'
    exact ⟨_, rfl, chs T.length, rfl, by rw [chs_len]; exact l10k (by omega), fun w hw => by have := (chs_wd _ w hw).2; omega, _, rfl, h⟩
def t_fewer_first (BC : Addr) (K : PySem.W.Frag) : DS := tA_fewer_first BC K
theorem r_fewer_first (BC : Addr) (K : PySem.W.Frag) (X : List Addr) (ds : List D) (k : Nat) (R : D → Nat → Prop) (h : sp_fewer_first ds k R) : t_fewer_first BC K (En R) (St0 false 1 ds X k) := rA_fewer_first BC K X ds k R h
def t_choices_of (BC : Addr) (K : PySem.W.Frag) : DS := tA_choices_of BC K
theorem r_choices_of (BC : Addr) (K : PySem.W.Frag) (X : List Addr) (ds : List D) (k : Nat) (R : D → Nat → Prop) (h : sp_choices_of BC ds k R) : t_choices_of BC K (En R) (St0 false 4 ds X k) := rA_choices_of BC K X ds k R h
end BW
set_option maxHeartbeats 1000000
namespace BW
open PySem L2 DL
def adj (T : Mat) (a b : Int) : Bool := decide (at2 T (ix a) (ix b) ≠ 2)
inductive Rch (T : Mat) (c : List Int) (a : Int) : Int → Prop
  | refl : Rch T c a a
  | step {x y : Int} : Rch T c a x → y ∈ c → adj T y x = true → Rch T c a y
def Clo (T : Mat) (c S : List Int) : Prop := ∀ x ∈ S, ∀ y ∈ c, adj T y x = true → y ∈ S
theorem Rch.inS {T : Mat} {c S : List Int} {a : Int} (ha : a ∈ S) (h : Clo T c S) {y : Int} (r : Rch T c a y) : y ∈ S := by
  induction r with
  | refl => exact ha
  | step _ hy hd ih => exact h _ ih _ hy hd
def grow (T : Mat) (c S : List Int) : List Int := c.filter fun y => S.contains y || S.any fun x => adj T y x
theorem mem_grow {T : Mat} {c S : List Int} {y : Int} : y ∈ grow T c S ↔ y ∈ c ∧ (y ∈ S ∨ ∃ x ∈ S, adj T y x = true) := by
  unfold grow
  rw [List.mem_filter, Bool.or_eq_true, List.contains_iff_mem, List.any_eq_true]
def grown (T : Mat) (c : List Int) : Nat → List Int → List Int
  | 0, S => S
  | n + 1, S => grown T c n (grow T c S)
def pc (T : Mat) (c : List Int) (a : Int) : List Int := grown T c c.length (c.filter fun x => x == a)
theorem filter_len {p q : Int → Bool} : ∀ {c : List Int}, (∀ x ∈ c, p x = true → q x = true) → (c.filter p).length ≤ (c.filter q).length
  | [], _ => Nat.le_refl _
  | x :: c, h => by
    have ih := filter_len (c := c) fun y hy => h y (List.mem_cons_of_mem _ hy)
    rw [List.filter_cons, List.filter_cons]
    by_cases e : p x = true
    · rw [if_pos e, if_pos (h x List.mem_cons_self e), List.length_cons, List.length_cons]; omega
    · rw [if_neg e]
      split
      · rw [List.length_cons]; omega
      · exact ih
theorem filter_eq {p q : Int → Bool} : ∀ {c : List Int}, (∀ x ∈ c, p x = true → q x = true) → (c.filter q).length ≤ (c.filter p).length → ∀ x ∈ c, q x = true → p x = true
  | [], _, _, x, hx, _ => nomatch hx
  | z :: c, h, l, x, hx, hq => by
    have hm := filter_len (c := c) fun y hy => h y (List.mem_cons_of_mem _ hy)
    rw [List.filter_cons, List.filter_cons] at l
    by_cases e : p z = true
    · rw [if_pos e, if_pos (h z List.mem_cons_self e), List.length_cons, List.length_cons] at l
      rcases List.mem_cons.mp hx with rfl | hx
      · exact e
      · exact filter_eq (c := c) (fun y hy => h y (List.mem_cons_of_mem _ hy)) (by omega) x hx hq
    · rw [if_neg e] at l
      by_cases e2 : q z = true
      · rw [if_pos e2, List.length_cons] at l; omega
      · rw [if_neg e2] at l
        rcases List.mem_cons.mp hx with rfl | hx
        · exact absurd hq e2
        · exact filter_eq (c := c) (fun y hy => h y (List.mem_cons_of_mem _ hy)) l x hx hq
def Prt (c S : List Int) : Prop := ∃ p : Int → Bool, S = c.filter p
theorem grow_prt {T : Mat} {c S : List Int} : Prt c (grow T c S) := ⟨_, rfl⟩
theorem grow_sub {T : Mat} {c S : List Int} (h : ∀ x ∈ S, x ∈ c) : ∀ x ∈ S, x ∈ grow T c S := fun x hx => mem_grow.mpr ⟨h x hx, .inl hx⟩
theorem prt_sub {c S : List Int} (h : Prt c S) : ∀ x ∈ S, x ∈ c := fun x hx => by
  obtain ⟨p, rfl⟩ := h
  exact (List.mem_filter.mp hx).1
theorem prt_ext {c S S' : List Int} (h : Prt c S) (h' : Prt c S') (e : ∀ x, x ∈ S ↔ x ∈ S') : S = S' := by
  obtain ⟨p, rfl⟩ := h
  obtain ⟨q, rfl⟩ := h'
  refine List.filter_congr fun x hx => ?_
  have := e x
  rw [List.mem_filter, List.mem_filter] at this
  cases hp : p x <;> cases hq : q x <;> simp [hp, hq, hx] at this ⊢
theorem flt_true (c : List Int) : c.filter (fun _ => true) = c := List.filter_eq_self.mpr fun _ _ => rfl
theorem grown_clo {T : Mat} {c : List Int} : ∀ {n : Nat} {S : List Int}, Prt c S → c.length < S.length + n + 1 → Clo T c (grown T c n S)
  | 0, S, h, l => fun x hx y hy _ => by
    obtain ⟨p, rfl⟩ := h
    have h2 := filter_eq (p := p) (q := fun _ => true) (c := c) (fun _ _ _ => rfl) (by rw [flt_true]; omega) y hy rfl
    exact List.mem_filter.mpr ⟨hy, h2⟩
  | n + 1, S, h, l => by
    have sub := grow_sub (T := T) (prt_sub h)
    by_cases e : (grow T c S).length ≤ S.length
    · -- nothing new: closed already
      have same : grow T c S = S := by
        refine prt_ext grow_prt h fun x => ⟨fun hx => ?_, sub x⟩
        obtain ⟨p, rfl⟩ := h
        have hx' := List.mem_filter.mp hx
        exact List.mem_filter.mpr ⟨hx'.1, filter_eq (c := c) (fun y hy hp => (List.mem_filter.mp (sub y (List.mem_filter.mpr ⟨hy, hp⟩))).2) e x hx'.1 hx'.2⟩
      have fix : ∀ m, grown T c m S = S := by
        intro m
        induction m with
        | zero => rfl
        | succ m ih => show grown T c m (grow T c S) = S; rw [same]; exact ih
      rw [fix]
      intro x hx y hy hd
      have : y ∈ grow T c S := mem_grow.mpr ⟨hy, .inr ⟨x, hx, hd⟩⟩
      rw [same] at this
      exact this
    · exact grown_clo (n := n) grow_prt (by omega)
theorem grown_prt {T : Mat} {c : List Int} : ∀ {n : Nat} {S : List Int}, Prt c S → Prt c (grown T c n S)
  | 0, _, h => h
  | n + 1, _, _ => grown_prt (n := n) grow_prt
theorem grown_sup {T : Mat} {c : List Int} : ∀ {n : Nat} {S : List Int}, Prt c S → ∀ x ∈ S, x ∈ grown T c n S
  | 0, _, _, _, hx => hx
  | n + 1, _, h, x, hx => grown_sup (n := n) grow_prt x (grow_sub (prt_sub h) x hx)
theorem grown_rch {T : Mat} {c : List Int} {a : Int} : ∀ {n : Nat} {S : List Int}, (∀ x ∈ S, Rch T c a x) → ∀ x ∈ grown T c n S, Rch T c a x
  | 0, _, h, x, hx => h x hx
  | n + 1, S, h, x, hx => grown_rch (n := n) (fun y hy => by
      obtain ⟨h1, h2 | ⟨z, hz, hd⟩⟩ := mem_grow.mp hy
      · exact h y h2
      · exact .step (h z hz) h1 hd) x hx
theorem pc_prt (T : Mat) (c : List Int) (a : Int) : Prt c (pc T c a) := grown_prt ⟨_, rfl⟩
theorem pc_mem {T : Mat} {c : List Int} {a : Int} (ha : a ∈ c) {x : Int} : x ∈ pc T c a ↔ Rch T c a x := by
  have st : Prt c (c.filter fun x => x == a) := ⟨_, rfl⟩
  have a0 : a ∈ c.filter fun x => x == a := List.mem_filter.mpr ⟨ha, by simp⟩
  refine ⟨grown_rch (fun y hy => ?_) x, Rch.inS (grown_sup st a a0) (grown_clo st ?_)⟩
  · have := (List.mem_filter.mp hy).2
    rw [beq_iff_eq.mp this]; exact .refl
  · have := List.length_pos_of_mem a0
    omega
theorem adj_symm {T : Mat} (ht : Tab T) {a b : Int} (ha : 1 ≤ a ∧ a ≤ T.length) (hb : 1 ≤ b ∧ b ≤ T.length) : adj T a b = adj T b a := by
  unfold adj
  rw [ht.sy (ix a) (ix b) (by show (a - 1).toNat < _; omega) (by show (b - 1).toNat < _; omega)]
theorem Rch.mem {T : Mat} {c : List Int} {a x : Int} (ha : a ∈ c) (r : Rch T c a x) : x ∈ c := by
  cases r with
  | refl => exact ha
  | step _ h _ => exact h
theorem Rch.trans {T : Mat} {c : List Int} {a x y : Int} (r : Rch T c a x) (q : Rch T c x y) : Rch T c a y := by
  induction q with
  | refl => exact r
  | step _ h1 h2 ih => exact .step ih h1 h2
theorem Rch.symm {T : Mat} (ht : Tab T) {c : List Int} (hw : Wd T.length c) {a x : Int} (ha : a ∈ c) (r : Rch T c a x) : Rch T c x a := by
  induction r with
  | refl => exact .refl
  | @step y z r h1 h2 ih =>
    have hy := r.mem ha
    refine Rch.trans (.step .refl hy ?_) ih
    rw [adj_symm ht (hw _ hy) (hw _ h1)]
    exact h2
theorem Rch.mono {T : Mat} {c d : List Int} (h : ∀ x ∈ c, x ∈ d) {a x : Int} (r : Rch T c a x) : Rch T d a x := by
  induction r with
  | refl => exact .refl
  | step _ h1 h2 ih => exact .step ih (h _ h1) h2
def Hng (T : Mat) (c : List Int) : Prop := ∃ a ∈ c, ∀ x ∈ c, Rch T c a x
theorem Hng.from {T : Mat} (ht : Tab T) {c : List Int} (hw : Wd T.length c) (h : Hng T c) {a x : Int} (ha : a ∈ c) (hx : x ∈ c) : Rch T c a x := by
  obtain ⟨b, hb, h⟩ := h
  exact ((h a ha).symm ht hw hb).trans (h x hx)
theorem pc_hng {T : Mat} {c : List Int} {a : Int} (ha : a ∈ c) : Hng T (pc T c a) := by
  have key : ∀ x, Rch T c a x → Rch T (pc T c a) a x := fun x r => by
    induction r with
    | refl => exact .refl
    | step r h1 h2 ih => exact .step ih ((pc_mem ha).mpr (.step r h1 h2)) h2
  exact ⟨a, (pc_mem ha).mpr .refl, fun x hx => key x ((pc_mem ha).mp hx)⟩
theorem hng_sub {T : Mat} (ht : Tab T) {c d : List Int} {a b : Int} (ha : a ∈ c) (hd : ∀ x ∈ d, x ∈ c) (hw : Wd T.length d) (h : Hng T d) (hb : b ∈ d) (hbp : b ∈ pc T c a) : ∀ x ∈ d, x ∈ pc T c a := fun x hx =>
  (pc_mem ha).mpr (((pc_mem ha).mp hbp).trans ((h.from ht hw hb hx).mono hd))
theorem pc_all {T : Mat} {c : List Int} {a : Int} (ha : a ∈ c) : pc T c a = c ↔ ∀ x ∈ c, Rch T c a x := by
  constructor
  · intro e x hx
    rw [← pc_mem ha, e]; exact hx
  · intro h
    exact prt_ext (pc_prt T c a) ⟨fun _ => true, (flt_true _).symm⟩ fun x => ⟨fun hx => prt_sub (pc_prt T c a) x hx, fun hx => (pc_mem ha).mpr (h x hx)⟩
end BW
set_option maxHeartbeats 1000000
namespace DL
open PySem PySem.Spec PyProof.Rows L2
open PySem.W (Frag dataLe AllAlike Sortable EachIs alike alikeAll)
theorem reads_items {h : Heap} : ∀ {ns : List Int} {vs : List Value}, IntsAre vs ns → ReadsAll h vs (ns.map .int) []
  | [], _, .nil => .nil
  | _ :: _, _, .cons i t r => .cons (as := []) (.int i t) (reads_items r)
abbrev pyI (w : List Int) : PyData := .tuple (w.map .int)
theorem reads_isT {P : Program} {w : World} {h : Heap} {k : List Int} {b : Addr} (x : IsT P w h k b) : Reads h (.ref b) (pyI k) [] := by
  obtain ⟨o, items, n, ho, hc, hd, hi⟩ := x
  exact .tuple ho hc hd (reads_items (ints_of_items hi))
abbrev leP : Addr × List Int → Addr × List Int → Bool := dataLe false fun q => pyI q.2
abbrev leI : List Int → List Int → Bool := dataLe false pyI
theorem alike_pyI (a b : List Int) : alike (pyI a) (pyI b) = true := by
  show alikeAll (a.map .int) (b.map .int) = true
  exact PySem.W.alike_ints a b
section
variable {P : Program} {w : World} {A : Around} {E : Value → Shared → Prop} {s : Shared}
theorem refs_each : ∀ (L : List (Addr × List Int)), EachIs (fun u (q : Addr × List Int) => u = Value.ref q.1) (L.map fun q => Value.ref q.1) L
  | [] => .nil
  | q :: L => .cons rfl (refs_each L)
theorem each_refs : ∀ {L : List (Addr × List Int)} {us : List Value}, EachIs (fun u (q : Addr × List Int) => u = Value.ref q.1) us L → us = L.map fun q => Value.ref q.1
  | [], _, .nil => rfl
  | q :: L, _, .cons h t => by rw [List.map_cons, ← each_refs t, h]
theorem sorted_set_any {a : Addr} {L : List (Addr × List Int)} {es : Array (Int × Value)} {ep : Nat} {t : SetTable} {Q : Value → Shared → Prop} (R : SetTR P w s.heap a L es ep t) (hh : A.handled = none) (hu : A.units + 64 < cLine) (hne : ∀ p ∈ L, p.2 ≠ [])
    (hQ : ∀ s' p (c : Nat) (L0 : List (Addr × List Int)), (∀ b o, s.heap.get? b = some o → s'.heap.get? b = some o) → s'.gens = s.gens → s'.os = s.os → s.heap.objs.size ≤ p → L0.Perm L →
      s'.heap.get? p = some (seqObj "list" ((L0.mergeSort leP).map fun q => Value.ref q.1).toArray c) → Q (.ref p) s') :
    wpAny (model P w) A (call (.builtin "sorted") [.ref a]) Q E s := by
  obtain ⟨o, ho, hex, hd⟩ := R.ob
  have hsz := R.size
  have hfew := R.few
  refine Calls.call_function_entry kind_sorted plain_sorted entry_sorted (args_sorted1 _) ?_
  unfold Builtin.«sorted»
  refine wpAny_bind (m := checkCount "sorted" 1 1 _) (wpAny_pure ?_)
  refine wpAny_bind (collect_set (A := A.in1) hh ⟨o, ho, hex.1, hd⟩ R.fits (by unfold scanBound; omega) R.tab.ris R.led fun s1 vs k1 hz g1 o1 pm => ?_)
  have rows : es.toList.map (·.2) = L.map fun q => Value.ref q.1 := by
    rw [R.rows]
    unfold rowsOf
    rw [List.map_map] <;> rfl
  rw [rows] at pm
  obtain ⟨L0, e0, p0⟩ : ∃ L0 : List (Addr × List Int), vs = L0.map (fun q => Value.ref q.1) ∧ L0.Perm L := by
    have ind : ∀ {us ws : List Value}, us.Perm ws → ∀ M : List (Addr × List Int), ws = M.map (fun q => Value.ref q.1) → ∃ N : List (Addr × List Int), us = N.map (fun q => Value.ref q.1) ∧ N.Perm M := by
      intro us ws h
      induction h with
      | nil => intro M e; exact ⟨M, e, .refl _⟩
      | cons x _ ih =>
        intro M e
        cases M with
        | nil => cases e
        | cons q M =>
          obtain ⟨N, e1, p1⟩ := ih M (List.cons.inj e).2
          exact ⟨q :: N, by rw [List.map_cons, ← e1, (List.cons.inj e).1], p1.cons q⟩
      | swap x y l =>
        intro M e
        match M, e with
        | q :: r :: M, e => 
          have h1 := List.cons.inj e
          have h2 := List.cons.inj h1.2
          exact ⟨r :: q :: M, by rw [List.map_cons, List.map_cons, ← h2.2, h1.1, h2.1], .swap q r M⟩
      | trans _ _ ih1 ih2 =>
        intro M e
        obtain ⟨N, e1, p1⟩ := ih2 M e
        obtain ⟨N', e2, p2⟩ := ih1 N e1
        exact ⟨N', e2, p2.trans p1⟩
    exact ind pm L rfl
  subst e0
  have hl0 : L0.length = L.length := p0.length_eq
  refine wpAny_bind (wpAny_newList ?_ (by rw [List.length_map, sizeLine_eq]; omega))
  have hoL : (s1.heap.push (seqObj "list" (L0.map fun q => Value.ref q.1).toArray 0)).get? s1.heap.objs.size = some (seqObj "list" (L0.map fun q => Value.ref q.1).toArray 0) := Heap.get?_push_size _ rfl
  have rd : EachIs (fun v (b : Addr × List Int) => ∃ as, Reads (s1.heap.push (seqObj "list" (L0.map fun q => Value.ref q.1).toArray 0)) v (pyI b.2) as ∧ s1.heap.objs.size ∉ as) (L0.map fun q => Value.ref q.1) L0 := by
    have go : ∀ M : List (Addr × List Int), (∀ q ∈ M, q ∈ L) → EachIs (fun v (b : Addr × List Int) => ∃ as, Reads (s1.heap.push (seqObj "list" (L0.map fun q => Value.ref q.1).toArray 0)) v (pyI b.2) as ∧ s1.heap.objs.size ∉ as) (M.map fun q => Value.ref q.1) M := by
      intro M
      induction M with
      | nil => intro _; exact .nil
      | cons q M ih => 
        intro hm
        refine .cons ⟨[], reads_isT (P := P) (w := w) (isT_keep (R.tup q (hm q List.mem_cons_self)) fun b u e => Heap.get?_push_of_some _ (k1 b u e)), by simp⟩ (ih fun r hr => hm r (List.mem_cons_of_mem _ hr))
    exact go L0 fun q hq => p0.mem_iff.mp hq
  refine wpAny_bind (wpAny_holding (PySem.W.list_sort_data (s := { s1 with heap := s1.heap.push (seqObj "list" (L0.map fun q => Value.ref q.1).toArray 0) }) (enc := fun q : Addr × List Int => pyI q.2) hoL (refs_each L0) rd (AllAlike.of fun b b' => alike_pyI b.2 b'.2) ?_ (by rw [sizeLine_eq]; omega) (fun b hb => ?_) fun out lo eo => ?_))
  · refine .inl fun d hd => ?_
    obtain ⟨q, hq, rfl⟩ := List.mem_map.mp hd
    have := hne q (p0.mem_iff.mp hq)
    cases e : q.2 with
    | nil => exact absurd e this
    | cons x r => exact ⟨.int x, r.map .int, rfl⟩
  · have : (pyI b.2).depth ≤ 1 := by
      show PyData.depthAll (b.2.map .int) + 1 ≤ 1
      rw [PySem.W.depth_ints]
      exact Nat.le_refl _
    show A.units + 1 + 1 + (pyI b.2).depth < cLine
    omega
  · have eo' := each_refs eo
    subst eo'
    obtain ⟨c, hc⟩ := sortedHeap_at (vs := L0.map fun q => Value.ref q.1) (out := ((L0.mergeSort leP).map fun q => Value.ref q.1).toArray) hoL
    refine wpAny_pure ⟨_, rfl, hQ _ s1.heap.objs.size c L0 (fun b u e => ?_) g1 o1 hz p0 hc⟩
    have q := k1 b u e
    have hlt := Heap.lt_size q
    show (sortedHeap (s1.heap.push (seqObj "list" (L0.map fun q => Value.ref q.1).toArray 0)) s1.heap.objs.size _ _).get? b = some u
    rw [sortedHeap_old (Nat.ne_of_lt hlt) (by rw [size_push']; exact Nat.lt_succ_of_lt hlt)]
    exact Heap.get?_push_of_some _ q
end
section
variable {X : Cx}
theorem cr_sortedTN (hc : X.calm = true) (hu : X.A.units + 64 < cLine) : CallR X (.builtin "sorted") (fun vs H Q => ∃ (a : Addr) (L : List (Addr × List Int)), vs = [V.ref a] ∧ H a = some (SetTO X.prog X.w a L) ∧ (∀ p ∈ L, SqT X.K H p.1 (p.2.map V.int)) ∧ (∀ p ∈ L, p.2 ≠ []) ∧
    ∀ (L0 : List (Addr × List Int)) (p : Addr), L0.Perm L → (L.map (·.2)).Nodup → L.length < 64 → H p = none → Q (.ref p) (upd H p (.lst ((L0.mergeSort leP).map fun q => V.ref q.1)))) := by
  intro pins s σ H vs us Q I r h
  obtain ⟨a, L, rfl, ha, hk, hne, q⟩ := h
  have R0 : SetT0 X.prog X.w s.heap a L := (I.hok a _ ha).1
  obtain ⟨es, ep, t, R⟩ := R0.full fun p hp => I.isT (hk p hp)
  rw [Vals.ref1 r]
  refine sorted_set_any R (I.ok.hd hc) hu hne fun s' p c L0 k g o hp pm hg => ?_
  have hl : (L0.mergeSort leP).length = L.length := by rw [List.length_mergeSort, pm.length_eq]
  have hfew := R.few
  have hn : H p = none := I.hok.fresh hp
  have hob : ObjOk X.prog X.w (upd H p (.lst ((L0.mergeSort leP).map fun q => V.ref q.1))) s'.heap p (.lst ((L0.mergeSort leP).map fun q => V.ref q.1)) :=
    ⟨by rw [List.length_map, sizeLine_eq]; omega, _, c, vals_of_refs _, hg⟩
  have J : Inv X pins σ (upd H p (.lst ((L0.mergeSort leP).map fun q => V.ref q.1))) { s with heap := s'.heap, gens := s'.gens, drawn := s'.drawn, toks := s'.toks } :=
    I.call (ch := []) (Un.laid k hp hn) (I.hok.laid k hp hob) (by rw [g]; exact I.bare) (fun _ z => nomatch z)
  have e : s' = { s with heap := s'.heap, gens := s'.gens, drawn := s'.drawn, toks := s'.toks } := by
    cases s'
    cases s
    cases o
    rfl
  rw [e]
  exact ⟨.ref p, _, J, rfl, q L0 p pm R.nd hfew hn⟩
end
theorem RlA.ofTups {K : Frag} {H : Hp} : ∀ {ks : List (Addr × List Int)}, (∀ p ∈ ks, SqT K H p.1 (p.2.map V.int)) → RlA K H (ks.map fun p => V.ref p.1) (ks.map fun p => D.tup (p.2.map .int))
  | [], _ => .nil
  | p :: ks, h => .cons (.tup (h p List.mem_cons_self) (RlA.ints _)) (RlA.ofTups fun q hq => h q (List.mem_cons_of_mem _ hq))
end DL
set_option maxHeartbeats 1600000
namespace DL
open PySem PySem.Spec PyProof.Rows L2 PpSet
open PySem.W (Frag)
section
variable {P : Program} {w : World} {A : Around} {E : Value → Shared → Prop} {s : Shared}
theorem setT_add {a : Addr} {L : List (Addr × List Int)} {es : Array (Int × Value)} {ep : Nat} {t : SetTable} {x : Addr} {k : List Int} {Q : Value → Shared → Prop} (R : SetTR P w s.heap a L es ep t) (hx : IsT P w s.heap k x) (hu : A.in1.units < cLine) (hfew : L.length + 1 < 64)
    (hQ : ∀ h' tk L' es' ep' t', Heap.SameBut a s.heap h' → SetTR P w h' a L' es' ep' t' → (k ∈ L.map (·.2) → L' = L) → (k ∉ L.map (·.2) → L'.Perm ((x, k) :: L)) → Q .none { s with heap := h', toks := tk }) :
    wpAny (model P w) A (call (.builtin "set.add") [.ref a, .ref x]) Q E s := by
  obtain ⟨o, ho, hex, hd⟩ := R.ob
  refine wpAny_call_entry F.slot_set_add ⟨o, ho, hex.1⟩ F.entry_set_add ?_ (F.args_set_add_2 _ _)
  unfold Builtin.«set.add» Builtin.Frozenset.oneOther
  simp only [List.isEmpty_nil, bind_assoc]
  unfold Builtin.Frozenset.addrOf setAdd
  refine wpAny_bind (wpAny_pure ?_)
  try dsimp only
  refine wpAny_bind (wpAny_pure ?_)
  try dsimp only
  refine wpAny_bind (wpAny_holding (wpAny_bind (wpAny_pyHash_tuple hu hx ?_)))
  refine add_at (s := { s with toks := s.toks + (k.length + 1) }) R hx hu hfew fun b h' L' es' ep' t' sb R' c1 c2 => ?_
  exact show wpAny _ _ (ret Value.none) _ _ _ from wpAny_pure ⟨_, rfl, hQ h' _ L' es' ep' t' sb R' c1 c2⟩
end
section
variable {X : Cx}
theorem addTO {pins : List (Addr × Obj)} {σ : L2.St} {H : Hp} {s : Shared} {E : Value → Shared → Prop} {D b : Addr} {k : List Int} {L : List (Addr × List Int)} {Q : Value → Shared → Prop} (hu : X.A.units + 64 < cLine) (I : Inv X pins σ H s) (hD : H D = some (SetTO X.prog X.w D L))
    (hL : ∀ p ∈ L, SqT X.K H p.1 (p.2.map V.int)) (hb : SqT X.K H b (k.map V.int)) (few : L.length + 1 < 64)
    (fin : ∀ s' L', (k ∈ L.map (·.2) → L' = L) → (k ∉ L.map (·.2) → L'.Perm ((b, k) :: L)) → Inv X pins σ (upd H D (SetTO X.prog X.w D L')) s' → Q .none s') :
    wpAny (model X.prog X.w) X.A (call (.builtin "set.add") [.ref D, .ref b]) Q E s := by
  have R0 : SetT0 X.prog X.w s.heap D L := (I.hok D _ hD).1
  obtain ⟨es, ep, t, R⟩ := R0.full fun p hp => I.isT (hL p hp)
  refine setT_add R (I.isT hb) (by show X.A.units + 1 < _; omega) few fun h' tk L' es' ep' t' sb R' c1 c2 => fin _ L' c1 c2 ?_
  have there : ∃ u, h'.get? D = some u := let ⟨o, ho, _⟩ := R'.ob; ⟨o, ho⟩
  exact I.write (e := D) (t' := tk) (by rw [hD]; trivial) (.inl rfl) (fun c u hc hu => (sb.2 c hc).trans hu) there (setTO_new R'.t0)
def tSetC (P : Program) (w : World) (K : Frag) (wi : TI) (g : TG) (te : TE) (vs : List Nat) : TE := fun σ H Q => wi σ H fun J H1 => ∀ D, H1 D = none → ∃ W : Nat → Nat → Hp → Prop, (∃ m, W 0 m (upd H1 D (SetTO P w D []))) ∧ ∀ i m H, W i m H →
  (J.stop i H ∧ Q (.ref D) H) ∨ (J.go i H ∧ ∀ y H', J.yld i H y H' → g y (wipe σ vs) H' fun σ2 H2 => wipe σ2 vs = wipe σ vs ∧ te σ2 H2 fun v H3 => ∃ (b : Addr) (k : List Int) (L : List (Addr × List Int)), v = .ref b ∧ SqT K H3 b (k.map V.int) ∧ H3 D = some (SetTO P w D L) ∧
    (∀ p ∈ L, SqT K H3 p.1 (p.2.map V.int)) ∧ L.length + 1 < 64 ∧ ∀ L', (k ∈ L.map (·.2) → L' = L) → (k ∉ L.map (·.2) → L'.Perm ((b, k) :: L)) → ∃ m', m' < m ∧ W (i + 1) m' (upd H3 D (SetTO P w D L')))
abbrev newSetO (w : World) : Obj := { cls := .type "set", dict := none, data := .set #[] 0 (.fresh 0 0 (!w.params.followText "set-order")) }
theorem pe_setC {elt tg iter : Expr} {scope : Scope} {own : List (PySem.Str × Nat)} {pos : Pos} {wi : TI} {g : TG} {te : TE} (hc : X.calm = true) (hu : X.A.units + 64 < cLine) (hN : X.N.Nodup) (hi : PI X tg iter wi) (ok : BlkOk X.N X.env.scope scope own)
    (hg : ∀ (u : Shared) (G : Hp) (C : Addr) (cl : List (PySem.Str × Addr)) (ws : List Addr), PG (X.blk u G scope (compEnvC scope cl C X.env) ws) tg g)
    (he : ∀ (u : Shared) (G : Hp) (C : Addr) (cl : List (PySem.Str × Addr)) (ws : List Addr), PE (X.blk u G scope (compEnvC scope cl C X.env) ws) elt te) (hs : ∀ x, foldedSetIterable iter X.env x = pure x := by intro _; rfl) :
    PE X (.SetComp elt [⟨tg, iter, [], 0⟩] scope pos) (tSetC X.prog X.w X.K wi g te (own.map (·.2))) := by
  constructor
  intro pins s σ H Q I asked
  rw [eval_SetComp]
  have cells : ∀ y ∈ scope.names, y.2 = .free → ∃ c, X.env.cells.lookup y.1 = some c := fun y hy e => (ok.free y hy e).elim (fun z => I.ok.has _ (.inl z)) fun z => I.ok.has _ (.inr z)
  refine wpAny_comprehension_free rfl hs (closure_ok cells) ok.kind (fun y hy e => by rw [ok.uniq y hy, e]) (thn (hi.run pins s σ H _ I asked) fun _ sa ha => thn ha fun _ sb hb => ?_)
  obtain ⟨it, ws, at_, J, G, rfl, Ib, T, pb, wb, q⟩ := hb
  refine newSet_ok (newEnv_comp ?_)
  have free0 : G sb.heap.objs.size = none := Ib.hok.fresh (Nat.le_refl _)
  obtain ⟨W, ⟨m0, w0⟩, turn⟩ := q _ free0
  have older : ∀ b ∈ ws, b < sb.heap.objs.size := fun b hb => let ⟨_, e, _⟩ := T.obj _ _ pb b hb; Heap.lt_size e
  -- the set is laid
  obtain ⟨D, eD⟩ : ∃ D, D = sb.heap.objs.size := ⟨_, rfl⟩
  rw [← eD] at w0 turn free0 ⊢
  obtain ⟨sc, ec⟩ : ∃ sc : Shared, sc = { sb with heap := sb.heap.push (newSetO X.w) } := ⟨_, rfl⟩
  rw [show ({ sb with heap := sb.heap.push { cls := .type "set", dict := none, data := .set #[] 0 (.fresh 0 0 (!X.w.params.followText "set-order")) } } : Shared) = sc from ec.symm]
  obtain ⟨Hc, eH⟩ : ∃ Hc, Hc = upd G D (SetTO X.prog X.w D []) := ⟨_, rfl⟩
  have hh : sc.heap = sb.heap.push (newSetO X.w) := by rw [ec]
  have Ic : Inv X pins σ Hc sc := by
    rw [ec, eH, eD]
    exact Ib.laid (t' := sb.toks) (fun _ _ e => Heap.get?_push_of_some _ e) (Nat.le_refl _) (setTO_new (setTR_fresh (P := X.prog) (Heap.get?_push_size sb.heap (o := newSetO X.w) rfl)).t0)
  have grown : ∀ b o, sb.heap.get? b = some o → sc.heap.get? b = some o := fun b o e => by rw [hh]; exact Heap.get?_push_of_some _ e
  have wc : ∀ b ∈ ws, FpOk X pins Hc b ∧ b < sc.heap.objs.size := fun b hb => by
    have l := older b hb
    obtain ⟨u1, u2⟩ := wb b hb
    refine ⟨⟨by rw [eH, upd_ne (fun z => absurd (z ▸ l) (by rw [eD]; exact Nat.lt_irrefl _))]; exact u1, u2⟩, ?_⟩
    rw [hh, Heap.size_push]
    exact Nat.lt_succ_of_lt l
  have pc : at_ 0 sc.heap := T.keep _ _ _ pb fun b _ o e => grown b o e
  -- the block's own frame
  have Id := block_start Ic ok hN wc
  obtain ⟨ce, ee⟩ : ∃ ce, ce = compEnvC scope (cellsFrom (sc.heap.objs.size + 1) scope.names (cloFrom X.env.cells scope.names [])) sc.heap.objs.size X.env := ⟨_, rfl⟩
  rw [← ee] at Id
  have rg := hg sc Hc sc.heap.objs.size (cellsFrom (sc.heap.objs.size + 1) scope.names (cloFrom X.env.cells scope.names [])) ws
  have re := he sc Hc sc.heap.objs.size (cellsFrom (sc.heap.objs.size + 1) scope.names (cloFrom X.env.cells scope.names [])) ws
  rw [← ee] at rg re
  obtain ⟨sd, ed⟩ : ∃ sd : Shared, sd = { sc with heap := pushCells (sc.heap.push { cls := .type "dict", data := .dict #[] }) scope.names } := ⟨_, rfl⟩
  rw [← ed] at Id
  have loc : ce.locals = sc.heap.objs.size := by rw [ee]; rfl
  have pd : at_ 0 sd.heap := T.keep _ _ _ pc fun b _ o e => by rw [ed]; exact pushCells_keeps _ _ _ _ (Heap.get?_push_of_some _ e)
  have kept : ∀ {τ : L2.St} {H' : Hp} {s' : Shared}, Inv (X.blk sc Hc scope ce ws) [] τ H' s' → (∀ b ∈ ws, H' b = none) → ∀ b ∈ ws, FpOk (X.blk sc Hc scope ce ws) [] H' b := fun {τ H' s'} Ix hn b hb =>
    ⟨hn b hb, (Ix.ok.exf b hb).1, Ix.ok.exfs b hb, .inl hb, fun y c e => (Ix.ok.exf b hb).2 y c e, fun p hp => nomatch (show p ∈ ([] : List (Addr × Obj)) from hp)⟩
  have aim : codeAny (model X.prog X.w) X.A (.compStart (.SetComp elt [⟨tg, iter, [], 0⟩] scope pos) 0 (.ref it) (.ref D) ce) (compPost (model X.prog X.w) X.A X.xe none (EP X pins σ Q) (.ref D) sc.heap.objs.size) sd := by
    have turns : codeAny (model X.prog X.w) X.A (.compLoop (.SetComp elt [⟨tg, iter, [], 0⟩] scope pos) 0 (.ref it) (.ref D) ce) (compPost (model X.prog X.w) X.A X.xe none (EP X pins σ Q) (.ref D) sc.heap.objs.size) sd := by
      refine compLoopS_any (fun n u => ∃ i F, Inv (X.blk sc Hc scope ce ws) [] (wipe σ (own.map (·.2))) F u ∧ at_ i u.heap ∧ (∀ b ∈ ws, F b = none) ∧ W i n F) ?_ m0 ⟨0, Hc, Id, pd, fun b hb => (wc b hb).1.1, eH ▸ w0⟩
      rintro n u ⟨i, F, Iu, pu, fu, wu⟩
      rcases turn i n F wu with ⟨halt, done⟩ | ⟨go, next⟩
      · refine thnF (T.done (X.blk sc Hc scope ce ws) rfl rfl rfl hc i [] u _ F (fun _ _ => False) Iu (kept Iu fu) pu halt) ?_
        rintro r v ⟨rfl, Iv⟩
        -- the set is whole; back in the def's own frame
        have back : Inv X pins σ F v := Ic.call' (ch := ws) Iv.os Iv.base Iv.hok Iv.bare fun b hb => let ⟨_, f1, _, f3, f4, f5⟩ := (wc b hb).1; ⟨f3, f1, f4, f5⟩
        obtain ⟨mm, names, _⟩ := Iv.loc
        have names : v.heap.Ns sc.heap.objs.size mm := by rw [← loc]; exact names
        have gone : F sc.heap.objs.size = none := by rw [← loc]; exact Iv.free
        refine ⟨mm, names, fun h2 sm => ?_⟩
        obtain ⟨f0, f1, _, f3, f4, f5⟩ := Ic.fpOk (Nat.le_refl _) gone
        exact ⟨.ref D, F, back.turned (t' := v.toks) (fun b o hb e => (sm.2 b hb).trans e) f0 f1 f3 f4 f5, rfl, done⟩
      · refine thnF (T.item (X.blk sc Hc scope ce ws) rfl rfl rfl hc i [] u _ F (fun _ _ => False) Iu (kept Iu fu) pu go) ?_
        rintro r v ⟨z, rfl, hv⟩
        refine thnF hv ?_
        rintro _ v2 ⟨y, F2, I2, r2, y2, p2, n2⟩
        have I2' := I2.pinned (kept I2 n2) (T.obj _ _ p2)
        refine thnF (rg.run _ v2 _ F2 y z _ I2' r2 (next y F2 y2)) ?_
        rintro _ v3 ⟨τ, F3, I3, hw, q3⟩
        refine thnF ((pts_nil (X := X.blk sc Hc scope ce ws)).run _ v3 τ F3 (fun b F4 => b = true ∧ F4 = F3) I3 ⟨rfl, rfl⟩) ?_
        rintro t v4 ⟨F4, I4, rfl, rfl⟩
        refine thnF (re.run _ v4 τ _ _ I4 q3) ?_
        rintro zz v5 ⟨vv, F5, I5, r5, b, k, L, rfl, hb, hD, hL, few, fill⟩
        obtain rfl : zz = Value.ref b := r5
        refine addTO (X := X.blk sc Hc scope ce ws) hu I5 hD hL hb few fun v6 L' c1 c2 I6 => ?_
        obtain ⟨m', lt, wn⟩ := fill L' c1 c2
        have stands : ∀ c ∈ ws, ∀ o, v2.heap.get? c = some o → v6.heap.get? c = some o ∧ (upd F5 D (SetTO X.prog X.w D L')) c = none := fun c hc o e =>
          let h := I6.pin (c, o) (List.mem_append_right _ (List.mem_append_right _ (mem_pinsAt hc e))); ⟨h.1, h.2.1⟩
        refine ⟨m', lt, i + 1, _, I6.unpinned.weak (by rw [← hw, wipe_length]) (fun j x e => ?_), T.keep _ _ _ p2 fun c hc o e => (stands c hc o e).1, fun c hc => ?_, wn⟩
        · rw [← hw] at e
          exact (wipe_some e).1
        · obtain ⟨o, e, _⟩ := T.obj _ _ p2 c hc
          exact (stands c hc o e).2
    exact codeAny_compStart_set turns (T.self X.A 0 _ _ _ pd turns)
  rw [ee, ed] at aim
  exact aim
end
end DL
set_option maxHeartbeats 1600000
namespace DL
open PySem PySem.Spec PyProof.Rows L2
open PySem.W (Frag)
theorem heap_size : ∀ n : Nat, ∃ h : Heap, h.objs.size = n
  | 0 => ⟨{ objs := #[] }, rfl⟩
  | n + 1 => by
    obtain ⟨h, e⟩ := heap_size n
    exact ⟨h.push { cls := .none, data := .fields #[] }, by rw [Heap.size_push, e]⟩
theorem set_noCode {P : Program} {w : World} {D : Addr} {L : List (Addr × List Int)} (q : PySem.Str) : SetTO P w D L ≠ LamX.CodeO D q := fun e => by
  obtain ⟨h, hs⟩ := heap_size D
  have ef : (fun g : Heap => SetT0 P w g D L) = fun g : Heap => ∃ (oc : Obj) (vs : Array Value) (t : Tok), g.get? D = some oc ∧ oc.data = .fields vs ∧ vs[1]? = some (.str q t) := by
    injection e
  have at_ : (h.push { cls := .none, data := .fields #[.none, .str q 0] }).get? D = some { cls := .none, data := .fields #[.none, .str q 0] } := by
    rw [← hs]
    exact Heap.get?_push_size _ rfl
  have c : SetT0 P w (h.push { cls := .none, data := .fields #[.none, .str q 0] }) D L := by
    rw [show SetT0 P w (h.push { cls := .none, data := .fields #[.none, .str q 0] }) D L = _ from congrFun ef _]
    exact ⟨_, _, 0, at_, rfl, rfl⟩
  obtain ⟨es, ep, t, ⟨o, ho, _, hd⟩, _⟩ := c.ex
  rw [at_] at ho
  cases ho
  cases hd
theorem Rep.chg {c : C} {s : S} {σ : L2.St} {H : Hp} {D : Addr} {P : Program} {w : World} {L L' : List (Addr × List Int)} (r : Rep c s σ H) (hx : D ∈ s.X) (h0 : D ∉ c.X0) (hm : D ∉ Ml c.M) (hs : ∀ (i : Nat) (ds : List DL.D), s.sl[i]? ≠ some (.own D ds)) (e : H D = some (SetTO P w D L)) :
    Rep c s σ (upd H D (SetTO P w D L')) := by
  have sm : Sub (c.hid s.X H) (c.hid s.X (upd H D (SetTO P w D L'))) := wo_mut (List.mem_append_right _ hx)
  refine ⟨r.sub.trans sm, fun a ha hm' hn => ?_, r.x0, r.xm, fun a ha => ?_, r.m.eq (fun a ha _ => upd_ne fun z => hm (by rw [← z]; exact ha)) (.at_ e (by intro _ z; cases z) set_noCode), fun j x q => ?_, r.apart, r.len, r.tb.trans (.at_ e (by intro _ z; cases z) set_noCode), fun a ha => ?_⟩
  · rw [upd_ne fun z => h0 (by rw [← z]; exact ha)]
    exact r.old a ha hm' hn
  · by_cases z : a = D
    · rw [z, upd_same]; simp
    · rw [upd_ne z]; exact r.xs a ha
  · have h := r.slot j x q
    cases x with
    | no => trivial
    | dat d =>
      obtain ⟨v, e1, h1⟩ := h
      exact ⟨v, e1, h1.mono sm⟩
    | own w ds =>
      obtain ⟨e1, h1, h2, h3, ws, h4, h5⟩ := h
      exact ⟨e1, h1, h2, h3, ws, by rw [upd_ne fun z => hs j ds (by rw [← z]; exact q)]; exact h4, h5.mono sm⟩
    | mst => exact h
    | scr ns =>
      obtain ⟨v, e1, h1⟩ := h
      exact ⟨v, e1, sm.sl h1⟩
  · by_cases z : a = D
    · rw [z, upd_same]; exact fun _ q => by cases q
    · rw [upd_ne z]; exact r.xt a ha
abbrev dSortSetC (it : DI) (g : DG) (te : DE) (vs : List Nat) : DA := fun s Q => it s fun items k0 => items.length < 63 ∧ ∀ p, p ∉ s.X → ∃ Inv : Nat → List (List Int) → Nat → Prop, Inv 0 [] k0 ∧
  (∀ i d acc k, items[i]? = some d → Inv i acc k → g d ((s.own p k).wipe vs) fun s2 => te s2 fun y k3 => ∃ w : List Int, y = .tup (w.map .int) ∧ w ≠ [] ∧ Inv (i + 1) (acc ++ [w]) k3) ∧
  ∀ acc k, Inv items.length acc k → ∀ L : List (List Int), L.Nodup → (∀ w, w ∈ L ↔ w ∈ acc) → Q ((L.mergeSort leI).map fun w => .tup (w.map .int)) k
section
variable {X : Cx} {c : C}
theorem wipe_backC {vs ts : List Nat} {σ σ3 : L2.St} (hts : ∀ j ∈ ts, j ∈ vs) (l3 : σ3.length = (wipe σ vs).length) (k3 : ∀ j, j ∉ ts → σ3[j]? = (wipe σ vs)[j]?) : wipe σ3 vs = wipe σ vs := by
  rw [wipe_ext l3 fun j hj => k3 j fun z => hj (hts j z)]
  refine wipe_ext (wipe_length _ _) fun j hj => ?_
  have aux : ∀ (us : List Nat), (∀ v ∈ us, v ∈ vs) → (wipe σ us)[j]? = σ[j]? := by
    intro us
    induction us with
    | nil => intro _; rfl
    | cons v r ih =>
      intro hv
      show ((wipe σ r).set v none)[j]? = _
      rw [List.getElem?_set_ne (fun z => hj (by rw [← z]; exact hv v List.mem_cons_self)), ih fun w hw => hv w (List.mem_cons_of_mem _ hw)]
  exact aux _ fun _ h => h
theorem setc_imp {own : List (PySem.Str × Nat)} {wi : DI} {g : DG} {te : DE} {ts : List Nat} (hK : c.K = X.K) (hts : ∀ j ∈ ts, j ∈ own.map (·.2)) (σ : L2.St) (H : Hp) (Q : VK) (h : LF c (dSortSetC wi g te (own.map (·.2))) σ H Q) :
    tSetC X.prog X.w X.K (LI c wi) (LG c ts g) (LE c te) (own.map (·.2)) σ H fun v H1 => ∃ (a : Addr) (L : List (Addr × List Int)), [v] = [V.ref a] ∧ H1 a = some (SetTO X.prog X.w a L) ∧ (∀ p ∈ L, SqT X.K H1 p.1 (p.2.map V.int)) ∧ (∀ p ∈ L, p.2 ≠ []) ∧
      ∀ (L0 : List (Addr × List Int)) (p : Addr), L0.Perm L → (L.map (·.2)).Nodup → L.length < 64 → H1 p = none → Q (.ref p) (upd H1 p (.lst ((L0.mergeSort leP).map fun q => V.ref q.1))) := by
  obtain ⟨s, R, rp, q, f⟩ := h
  refine ⟨s, _, rp, q, fun items k0 hz J H1 r1 a1 yl D hD => ?_⟩
  obtain ⟨hl, hz⟩ := hz
  obtain ⟨n1, n2, n3, n4⟩ := r1.nofree hD
  obtain ⟨Inv, i0, turn, fin⟩ := hz D n1
  have hid0 := r1.hide (o := SetTO X.prog X.w D []) hD
  refine ⟨fun i m H' => m = items.length - i ∧ i ≤ items.length ∧ ∃ (acc : List (List Int)) (L : List (Addr × List Int)) (k : Nat), Inv i acc k ∧ L.length ≤ i ∧ H' D = some (SetTO X.prog X.w D L) ∧ Rep c (s.own D k) σ H' ∧ Sub (c.hid s.X H1) (c.hid (D :: s.X) H') ∧ (∀ a ∈ s.X, H' a = H1 a) ∧
      (∀ p ∈ L, SqT c.K (c.hid (D :: s.X) H') p.1 (p.2.map V.int)) ∧ (∀ w, w ∈ L.map (·.2) ↔ w ∈ acc) ∧ ∀ w ∈ acc, w ≠ [],
    ⟨items.length, by simp, Nat.zero_le _, [], [], k0, i0, Nat.le_refl _, upd_same, hid0.1, hid0.2, fun a ha => upd_ne fun z => n1 (by rw [← z]; exact ha), (fun p hp => nomatch hp), fun w => Iff.rfl, fun w hw => nomatch hw⟩, ?_⟩
  rintro i m H' ⟨rfl, hi', acc, L, k, hI, hlen, hD', rp', sb, ow, hq, mem, ne⟩
  obtain ⟨yl1, yl2⟩ := yl i (s.own D k) σ H' rp' sb
  by_cases hlt : i < items.length
  · obtain ⟨d, hd⟩ : ∃ d, items[i]? = some d := ⟨items[i], by simp [hlt]⟩
    obtain ⟨go, yd⟩ := yl2 d hd
    refine .inr ⟨go, fun x H2 hy => ?_⟩
    obtain ⟨r2, a2, e2⟩ := yd x H2 hy
    have xw : ((s.own D k).wipe (own.map (·.2))).X = D :: s.X := ((s.own D k).wipe_X _).1
    refine ⟨(s.own D k).wipe (own.map (·.2)), _, d, r2.wipe _, by rw [xw]; exact e2, turn i d acc k hd hI, fun s3 h3 σ3 H3 r3 a3 x3 k3 l3 => ?_⟩
    have x3' : s3.X = D :: s.X := x3.trans xw
    have a3' : AdvE c (D :: s.X) H2 H3 := xw ▸ a3
    refine ⟨wipe_backC hts l3 k3, s3, _, r3, h3, fun y k5 ⟨w, ey, hw, hI5⟩ v5 H5 r5 a5 e5 => ?_⟩
    subst ey
    have a5' : AdvE c (D :: s.X) H3 H5 := x3' ▸ a5
    have e5 : Rl c.K (c.hid (D :: s.X) H5) v5 (.tup (w.map .int)) := by rw [x3'] at e5; exact e5
    obtain ⟨b, us, rfl, hb, hr⟩ := e5.tupE
    cases RlA.ints_v hr
    have st : Sub (c.hid (D :: s.X) H') (c.hid (D :: s.X) H5) := (a2.sub.trans a3'.sub).trans a5'.sub
    have ow5 : ∀ a ∈ D :: s.X, H5 a = H' a := fun a ha => ((a5'.own a ha).trans (a3'.own a ha)).trans (a2.own a ha)
    have D5 : H5 D = some (SetTO X.prog X.w D L) := by rw [ow5 D List.mem_cons_self]; exact hD'
    have rr : Rep c (s.own D k5) σ H5 := rp'.step (k := k5) st (fun a ha _ => ow5 a ha) r5.m r5.tb
    refine ⟨b, w, L, rfl, hK ▸ (wo_sub _ _ : Sub _ _).st hb, D5, fun p hp => hK ▸ (wo_sub _ _ : Sub _ _).st (st.st (hq p hp)), by omega, fun L' c1 c2 => ⟨items.length - (i + 1), by omega, rfl, hlt, acc ++ [w], L', k5, hI5, ?_, upd_same, ?_, ?_, ?_, ?_, ?_, ?_⟩⟩
    · by_cases hm : w ∈ L.map (·.2)
      · rw [c1 hm]; omega
      · rw [(c2 hm).length_eq, List.length_cons]; omega
    · exact rr.chg List.mem_cons_self n3 n2 (fun j ds => rp.noslot n1 j ds) D5
    · exact (sb.trans st).trans (wo_mut (List.mem_append_right _ List.mem_cons_self))
    · intro a ha
      rw [upd_ne fun z => n1 (by rw [← z]; exact ha), ow5 a (List.mem_cons_of_mem _ ha)]
      exact ow a ha
    · intro p hp
      have sm : Sub (c.hid (D :: s.X) H5) (c.hid (D :: s.X) (upd H5 D (SetTO X.prog X.w D L'))) := wo_mut (List.mem_append_right _ List.mem_cons_self)
      by_cases hm : w ∈ L.map (·.2)
      · rw [c1 hm] at hp ⊢
        rw [c1 hm] at sm
        exact sm.st (st.st (hq p hp))
      · rcases List.mem_cons.mp ((c2 hm).mem_iff.mp hp) with rfl | hp
        · exact sm.st hb
        · exact sm.st (st.st (hq p hp))
    · intro z
      by_cases hm : w ∈ L.map (·.2)
      · rw [c1 hm, mem, List.mem_append, List.mem_singleton]
        exact ⟨.inl, fun h => h.elim id fun e => e ▸ (mem w).mp hm⟩
      · rw [((c2 hm).map (·.2)).mem_iff, List.map_cons, List.mem_cons, mem, List.mem_append, List.mem_singleton]
        exact Or.comm
    · intro z hz
      rcases List.mem_append.mp hz with hz | hz
      · exact ne z hz
      · rw [List.mem_singleton.mp hz]; exact hw
  · have e : i = items.length := by omega
    subst e
    refine .inl ⟨yl1 (Nat.le_refl _), D, L, rfl, hD', fun p hp => hK ▸ (wo_sub _ _ : Sub _ _).st (hq p hp), fun p hp => ne _ ((mem _).mp (List.mem_map.mpr ⟨p, hp, rfl⟩)), fun L0 p pm nd few hn => ?_⟩
    have nd0 : (L0.map (·.2)).Nodup := (pm.map (·.2)).nodup_iff.mpr nd
    have hq0 := fin acc k hI (L0.map (·.2)) nd0 fun w => by rw [(pm.map (·.2)).mem_iff]; exact mem w
    have es : (L0.map (·.2)).mergeSort leI = (L0.mergeSort leP).map (·.2) := (PySem.W.sort_maps (r := leP) (s := leI) (l := L0) (fun z : Addr × List Int => z.2) (fun a _ b _ => rfl)).symm
    rw [es, List.map_map] at hq0
    have rs : Rep c (s.at k) σ H' := rp'.show n1 n3 fun j ds => rp.noslot n1 j ds
    have sh := hid_cons c D s.X H'
    exact f _ k hq0 p _ (NewL.mk' rs ⟨a1.sub.trans (sb.trans sh), fun a ha => (ow a ha).trans (a1.own a ha)⟩ (RlA.ofTups fun z hz => sh.st (hq z (pm.mem_iff.mp (List.mem_mergeSort.mp hz)))) hn)
theorem pdf_sortSetC {elt tg iter : Expr} {scope : Scope} {own : List (PySem.Str × Nat)} {p pos pos2 : Pos} {wi : DI} {g : DG} {te : DE} {ts : List Nat} {j : Nat} (hK : c.K = X.K) (hr : Room j X.A) (hc : X.calm = true) (hm : X.mg "sorted" = none) (hN : X.N.Nodup) (hi : PI X tg iter (LI c wi)) (ok : BlkOk X.N X.env.scope scope own)
    (hg : ∀ (s : Shared) (H : Hp) (C : Addr) (cl : List (PySem.Str × Addr)) (fp : List Addr), PG (X.blk s H scope (compEnvC scope cl C X.env) fp) tg (LG c ts g))
    (he : ∀ (s : Shared) (H : Hp) (C : Addr) (cl : List (PySem.Str × Addr)) (fp : List Addr), PE (X.blk s H scope (compEnvC scope cl C X.env) fp) elt (LE c te)) (hts : ∀ j ∈ ts, j ∈ own.map (·.2) := by decide) (hgl : Gl X "sorted" := by rfl)
    (hs : starEach [.SetComp elt [⟨tg, iter, [], 0⟩] scope pos2] X.env = (false, eval (.SetComp elt [⟨tg, iter, [], 0⟩] scope pos2) X.env) :: starEach [] X.env := by rfl) (hp : (backTo pos (starEach [] X.env)).any (·.1) = false := by rfl) (hf : ∀ x, foldedSetIterable iter X.env x = pure x := by intro _; rfl) :
    PE X (.Call (.Name "sorted" p) [.SetComp elt [⟨tg, iter, [], 0⟩] scope pos2] [] pos) (LF c (dSortSetC wi g te (own.map (·.2)))) := by
  refine (pe_callB (cr_sortedTN hc hr.units) hgl hm (by first | exact PySem.boot_sorted | exact PyProof.Rows.boot_sorted | rfl) (pa_cons (pe_setC hc hr.units hN hi ok hg he hf) pa_nil hs) (he := hs) (hpl := hp)).weak fun σ H Q h => ?_
  exact setc_imp hK hts σ H Q h
end
end DL
namespace DL
open PySem L2
open PySem.W (Frag)
end DL
namespace DL
open PySem L2
open PySem.W (Frag)
abbrev dTupRg (t u : DE) : DE := fun s Q => t s fun d k => u (s.at k) fun e k' => ∃ i j, d = .int i ∧ e = .int j ∧ RgOk i j ∧ Q (.tup (rngD i (j - i).toNat)) k'
section
variable {X : Cx} {c : C}
theorem pd_tupRg2 {a b : Expr} {t u : DE} {p pos p2 pos2 : Pos} (hc : X.calm = true) (hm : X.mg "range" = none) (hm2 : X.mg "tuple" = none) (ha : PE X a (LE c t)) (hb : PE X b (LE c u)) (hg : Gl X "range" := by rfl) (hg2 : Gl X "tuple" := by rfl)
    (na : starEach [a, b] X.env = (false, eval a X.env) :: starEach [b] X.env := by rfl) (nb : starEach [b] X.env = (false, eval b X.env) :: starEach [] X.env := by rfl) (hp : (backTo pos (starEach [b] X.env)).any (·.1) = false := by rfl)
    (hs2 : starEach [.Call (.Name "range" p) [a, b] [] pos] X.env = (false, eval (.Call (.Name "range" p) [a, b] [] pos) X.env) :: starEach [] X.env := by rfl) :
    PE X (.Call (.Name "tuple" p2) [.Call (.Name "range" p) [a, b] [] pos] [] pos2) (LE c (dTupRg t u)) :=
  (pe_tupRg hc hg2 hm2 (prg_2 hg hm ha hb na nb hp) hs2).weak fun σ H Q ⟨s, R, rp, q, f⟩ => ⟨s, _, rp, q, fun d k hq v H1 r1 a1 e1 => ⟨s.at k, _, r1, hq, fun e k2 ⟨i, j, hd, he, hr, hR⟩ w H2 r2 a2 e2 => by
    subst hd he
    cases (e1.mono a2.sub).intE
    cases e2.intE
    refine ⟨i, j, rfl, rfl, hr, fun y hy => ?_⟩
    have n := r2.new (o := .tup (rgV i j)) hy
    exact f _ k2 hR _ _ n.1 (a1.trans (a2.trans n.2)) (.tup (SqT.of (r2.at_new hy)) (rng_rl i j))⟩⟩
end
end DL
set_option maxHeartbeats 1000000
namespace BW
open PySem L2 DL
def ltrs (n : Nat) : List Int := (List.range n).map fun (i : Nat) => (1 : Int) + i
def sp_all_letters (BC : Addr) : DSp := fun ds k R => ∃ T, ds = [bnd BC T] ∧ Tab T ∧ R (tI (ltrs T.length)) k
def sp__law_near_of : DSp := fun ds k R => ∃ T f a, ds = [lM T, lI f, .int a] ∧ Tab T ∧ Wd T.length f ∧ f.length ≤ 100 ∧ 1 ≤ a ∧ a ≤ T.length ∧ R (.bl (f.any fun x => adj T x a)) k
def sp__law_is_in : DSp := fun ds k R => ∃ a b : List Int, ds = [tI a, tI b] ∧ a.length ≤ 100 ∧ R (.bl (a.all fun x => decide (x ∈ b))) k
abbrev t_all_letters (BC : Addr) : DS := (dRet (dTupRg (dC (.int 1)) (dOp oAdd (dLenO BC (sp_len_Bonds BC) (dVar 0)) (dC (.int 1)))))
abbrev t__law_near_of : DS := (dRet (dOp oNe (dFr (dLc (iLst (dVar 1)) (dgN 3) (dTB (dOp oNe (dOp oIx (dIxN 0 (dOp oSub (dVar 3) (dC (.int 1)))) (dOp oSub (dVar 2) (dC (.int 1)))) (dC (.int 2)))) (dVar 3) [3])) (dFr (dLs dNil))))
abbrev t__law_is_in : DS := (dRet (dOp oEq (dFr (dLc (iTp (dVar 0)) (dgN 2) (dTB (dOp oNin (dVar 2) (dVar 1))) (dVar 2) [2])) (dFr (dLs dNil))))
theorem ltrs_map (n : Nat) : (ltrs n).map D.int = rngD 1 n := by unfold ltrs rngD; rw [List.map_map]; rfl
theorem r_all_letters (BC : Addr) (X : List Addr) (ds : List D) (k : Nat) (R : D → Nat → Prop) (h : sp_all_letters BC ds k R) : t_all_letters BC (En R) (St0 false 1 ds X k) := by
  obtain ⟨T, rfl, ht, h⟩ := h
  have hT := ht.hi
  intro X
  refine ⟨_, rfl, ⟨_, _, rfl⟩, T, rfl, hT, T.length, rfl, by omega, 1, _, rfl, rfl, ?_, ?_⟩
  · exact ⟨by omega, by omega, by omega, by omega⟩
  · rw [show ((T.length : Int) + 1 - 1).toNat = T.length by omega, ← ltrs_map]
    exact h
theorem flt_nil {p : Int → Bool} {xs : List Int} : (!decide (xs.filter p = [])) = xs.any p := by
  induction xs with
  | nil => rfl
  | cons x xs ih =>
    rw [List.filter_cons, List.any_cons, ← ih]
    cases p x <;> simp
theorem r__law_near_of (X : List Addr) (ds : List D) (k : Nat) (R : D → Nat → Prop) (h : sp__law_near_of ds k R) : t__law_near_of (En R) (St0 false 4 ds X k) := by
  obtain ⟨T, f, a, rfl, ht, hf, lf, a1, a2, h⟩ := h
  have hT := ht.hi
  intro X
  refine ⟨_, rfl, _, rfl, by rw [List.length_map]; exact l10k (by omega), fun p hp => ⟨fun j acc k' => k' = k ∧ acc = ((f.take j).filter fun x => adj T x a).map D.int, ⟨rfl, rfl⟩, ?_, ?_⟩⟩
  · rintro j d acc k' hd ⟨rfl, rfl⟩ _
    rw [List.getElem?_map] at hd
    obtain ⟨x, hx, rfl⟩ := Option.map_eq_some_iff.mp hd
    have b := hf x (List.mem_of_getElem? hx)
    have hi : ix x < T.length := by unfold ix; omega
    have hj : ix a < T.length := by unfold ix; omega
    refine ⟨_, rfl, _, rfl, _, .lst ((T.getD (ix x) []).map D.int), rfl, by rw [show x - 1 = ((ix x : Nat) : Int) by unfold ix; omega]; exact atM [] hi, _, rfl, _, .int (at2 T (ix x) (ix a)), rfl, by rw [show a - 1 = ((ix a : Nat) : Int) by unfold ix; omega]; exact atM 0 (by rw [ht.sq (ix x) hi]; exact hj), rfl, rfl, _, rfl, ?_⟩
    rw [eqvI]
    have e : (!decide (at2 T (ix x) (ix a) = 2)) = adj T x a := by unfold adj; simp
    rw [e]
    by_cases q : adj T x a = true
    · rw [q]
      exact iteT ⟨_, rfl, rfl, by rw [filtI hx, if_pos q, List.map_append]; rfl⟩
    · rw [Bool.eq_false_iff.mpr q]
      exact iteF ⟨rfl, by rw [filtI hx, if_neg q, List.append_nil]⟩
  · rintro acc k' ⟨rfl, rfl⟩ _
    rw [List.length_map, List.take_length]
    refine ⟨by decide, okE_lstI _, rfl, ?_⟩
    rw [show (D.lst []) = D.lst (([] : List Int).map D.int) from rfl, eqv_lstI, flt_nil]
    exact h
theorem flt_all {xs b : List Int} : decide ((xs.filter fun x => !decide (x ∈ b)) = []) = xs.all fun x => decide (x ∈ b) := by
  induction xs with
  | nil => rfl
  | cons x xs ih =>
    rw [List.filter_cons, List.all_cons, ← ih]
    by_cases q : x ∈ b <;> simp [q]
theorem r__law_is_in (X : List Addr) (ds : List D) (k : Nat) (R : D → Nat → Prop) (h : sp__law_is_in ds k R) : t__law_is_in (En R) (St0 false 3 ds X k) := by
  obtain ⟨a, b, rfl, la, h⟩ := h
  intro X
  refine ⟨_, rfl, _, rfl, by rw [List.length_map]; exact l10k (by omega), fun p hp => ⟨fun j acc k' => k' = k ∧ acc = ((a.take j).filter fun x => !decide (x ∈ b)).map D.int, ⟨rfl, rfl⟩, ?_, ?_⟩⟩
  · rintro j d acc k' hd ⟨rfl, rfl⟩ _
    rw [List.getElem?_map] at hd
    obtain ⟨x, hx, rfl⟩ := Option.map_eq_some_iff.mp hd
    refine ⟨_, rfl, _, rfl, rfl, _, rfl, flat_ints _, _, rfl, ?_⟩
    rw [inV_mem]
    by_cases q : x ∈ b
    · rw [decide_eq_true q]
      exact iteF ⟨rfl, by rw [filtI hx, if_neg (by rw [decide_eq_true q]; decide), List.append_nil]⟩
    · rw [decide_eq_false q]
      exact iteT ⟨_, rfl, rfl, by rw [filtI hx, if_pos (by rw [decide_eq_false q]; decide), List.map_append]; rfl⟩
  · rintro acc k' ⟨rfl, rfl⟩ _
    rw [List.length_map, List.take_length]
    refine ⟨by decide, okE_lstI _, rfl, ?_⟩
    rw [show (D.lst []) = D.lst (([] : List Int).map D.int) from rfl, eqv_lstI, flt_all]
    exact h
end BW
set_option maxHeartbeats 1000000
namespace BW
open PySem L2 DL
open PySem.W (dataLe AllAlike Sortable)
theorem sort_ints (P : List Int) : (P.map D.int).mergeSort (dataLe false D.py) = (P.mergeSort fun a b => decide (a ≤ b)).map D.int := by
  refine (List.map_mergeSort fun a _ b _ => ?_).symm
  exact (congrFun (congrFun (PySem.W.dataLe_int (fun x : Int => x)) a) b).symm
theorem sort_asc {P Q : List Int} (h : P.Perm Q) (q : Q.Pairwise (· < ·)) : (P.mergeSort fun a b => decide (a ≤ b)) = Q := by
  refine List.Perm.eq_of_pairwise (le := fun a b : Int => a ≤ b) (fun a b _ _ h1 h2 => Int.le_antisymm h1 h2) ?_ (q.imp fun h => Int.le_of_lt h) ((List.mergeSort_perm _ _).trans h)
  exact (List.pairwise_mergeSort (le := fun a b : Int => decide (a ≤ b)) (fun a b c h1 h2 => decide_eq_true (Int.le_trans (of_decide_eq_true h1) (of_decide_eq_true h2))) (fun a b => by by_cases e : a ≤ b <;> simp [e]; omega) P).imp fun h => of_decide_eq_true h
theorem sortI_ok (P : List Int) : (∀ x ∈ P.map D.int, x.plain = true ∧ x.py.depth ≤ 60) ∧ AllAlike ((P.map D.int).map D.py) ∧ Sortable ((P.map D.int).map D.py) := by
  refine ⟨fun x hx => ?_, ?_, .inr fun d hd => ?_⟩
  · obtain ⟨a, _, rfl⟩ := List.mem_map.mp hx
    exact ⟨rfl, by show 0 ≤ 60; omega⟩
  · rw [List.map_map]
    exact AllAlike.of fun a b => rfl
  · rw [List.map_map] at hd
    obtain ⟨a, _, rfl⟩ := List.mem_map.mp hd
    show PyData.int a ≠ .none ∧ ∀ xs, PyData.int a ≠ .tuple xs
    exact ⟨fun h => (by cases h), fun xs h => (by cases h)⟩
theorem asc_nodup {c : List Int} (h : c.Pairwise (· < ·)) : c.Nodup := h.imp fun h e => by omega
theorem prt_pw {c S : List Int} (h : Prt c S) (q : c.Pairwise (· < ·)) : S.Pairwise (· < ·) := by
  obtain ⟨p, rfl⟩ := h
  exact q.filter _
theorem pc_perm {T : Mat} {c P : List Int} {a : Int} (ha : a ∈ c) (nc : c.Pairwise (· < ·)) (np : P.Nodup) (aP : a ∈ P) (r : ∀ x ∈ P, Rch T c a x) (cl : Clo T c P) : P.Perm (pc T c a) :=
  (List.perm_ext_iff_of_nodup np (asc_nodup (prt_pw (pc_prt T c a) nc))).mpr fun x => ⟨fun h => (pc_mem ha).mpr (r x h), fun h => ((pc_mem ha).mp h).inS aP cl⟩
def sp_piece_around (BC : Addr) : DSp := fun ds k R => ∃ T c a, ds = [bnd BC T, tI c, .int a] ∧ Tab T ∧ Chc T.length c ∧ a ∈ c ∧ R (tI (pc T c a)) k
abbrev t_pa5 : DS := (dSet 5 (dFr (dLc (iTp (dVar 1)) (dgN 6) (dTB (dOp oNin (dVar 6) (dVar 3))) (dVar 6) [6])))
abbrev t_pa4 (BC : Addr) : DS := (dSet 4 (dFr (dLc (iLst (dVar 5)) (dgN 6) (dTru (dAny (dFr (dLc (iLst (dVar 3)) (dgN 7) dY (dOp oNe (dMeth BC "bond" (sp_bond BC) (dVar 0) (dCons (dVar 6) (dCons (dVar 7) dNil))) (dC (.int (2)))) [7])))) (dVar 6) [6])))
abbrev t_piece_around (BC : Addr) : DS := (dSeq (dSet 3 (dFr (dLs dNil)))
  (dSeq (dSet 4 (dFr (dLs (dCons (dVar 2) dNil))))
  (dSeq (dWhile (dTru (dVar 4)) (dSeq (dSet 3 (dOp oAdd (dVar 3) (dVar 4)))
  (dSeq t_pa5
  (t_pa4 BC))))
  (dRet (dTupOf (dFr (dSorted (dVar 3))))))))
theorem r_pa5 {X : List Addr} {k : Nat} {DD : DEnds} {s0 s2 x4 x5 x6 x7 : Sl} {c P : List Int} (lc : c.length ≤ 6)
    (h : DD.nx ⟨X, [s0, .dat (tI c), s2, .dat (lI P), x4, .dat (lI (c.filter fun x => !decide (x ∈ P))), x6, x7], k⟩) :
    t_pa5 DD ⟨X, [s0, .dat (tI c), s2, .dat (lI P), x4, x5, x6, x7], k⟩ := by
  refine ⟨_, rfl, _, rfl, by rw [List.length_map]; exact l10k (by omega), fun p hp => ⟨fun j acc k' => k' = k ∧ acc = ((c.take j).filter fun x => !decide (x ∈ P)).map D.int, ⟨rfl, rfl⟩, ?_, ?_⟩⟩
  · rintro j d acc k' hd ⟨rfl, rfl⟩ _
    rw [List.getElem?_map] at hd
    obtain ⟨x, hx, rfl⟩ := Option.map_eq_some_iff.mp hd
    refine ⟨_, rfl, _, rfl, rfl, _, rfl, flat_ints _, _, rfl, ?_⟩
    rw [inV_mem]
    by_cases q : x ∈ P
    · rw [decide_eq_true q]
      exact iteF ⟨rfl, by rw [filtI hx, if_neg (by rw [decide_eq_true q]; decide), List.append_nil]⟩
    · rw [decide_eq_false q]
      exact iteT ⟨_, rfl, rfl, by rw [filtI hx, if_pos (by rw [decide_eq_false q]; decide), List.map_append]; rfl⟩
  · rintro acc k' ⟨rfl, rfl⟩ _
    rw [List.length_map, List.take_length]
    exact h
theorem r_pa4 {BC : Addr} {X : List Addr} {k : Nat} {DD : DEnds} {s1 s2 x4 x6 x7 : Sl} {T : Mat} {P O : List Int} (ht : Tab T) (hP : Wd T.length P) (hO : Wd T.length O) (lP : P.length ≤ 100) (lO : O.length ≤ 100)
    (h : DD.nx ⟨X, [.dat (bnd BC T), s1, s2, .dat (lI P), .dat (lI (O.filter fun y => P.any fun x => adj T y x)), .dat (lI O), x6, x7], k⟩) :
    t_pa4 BC DD ⟨X, [.dat (bnd BC T), s1, s2, .dat (lI P), x4, .dat (lI O), x6, x7], k⟩ := by
  refine ⟨_, rfl, _, rfl, by rw [List.length_map]; exact l10k (by omega), fun p hp => ⟨fun j acc k' => k' = k ∧ acc = ((O.take j).filter fun y => P.any fun x => adj T y x).map D.int, ⟨rfl, rfl⟩, ?_, ?_⟩⟩
  · rintro j d acc k' hd ⟨rfl, rfl⟩ _
    rw [List.getElem?_map] at hd
    obtain ⟨y, hy, rfl⟩ := Option.map_eq_some_iff.mp hd
    have by_ := hO y (List.mem_of_getElem? hy)
    refine ⟨_, rfl, _, rfl, by rw [List.length_map]; exact l10k (by omega), fun p2 hp2 => ⟨fun i acc k2 => k2 = k' ∧ acc = ((P.take i).map fun x => adj T y x).map D.bl, ⟨rfl, rfl⟩, ?_, ?_⟩⟩
    · rintro i d acc k2 hd ⟨rfl, rfl⟩ _
      rw [List.getElem?_map] at hd
      obtain ⟨x, hx, rfl⟩ := Option.map_eq_some_iff.mp hd
      have bx := hP x (List.mem_of_getElem? hx)
      refine iteT ⟨_, rfl, ⟨_, _, rfl, by decide +kernel⟩, _, rfl, _, rfl, T, y, x, rfl, ht, by_.1, by_.2, bx.1, bx.2, rfl, rfl, ?_⟩
      rw [eqvI]
      exact ⟨rfl, (bls_step hx fun x => adj T y x).symm ▸ by unfold adj; simp⟩
    · rintro acc k2 ⟨rfl, rfl⟩ _
      rw [List.length_map, List.take_length]
      refine ⟨_, rfl, _, rfl, ?_⟩
      rw [List.any_map]
      show if (P.any fun x => adj T y x) = true then _ else _
      by_cases q : (P.any fun x => adj T y x) = true
      · rw [if_pos q]
        exact ⟨_, rfl, rfl, by rw [filtI hy, if_pos q, List.map_append]; rfl⟩
      · rw [if_neg q]
        exact ⟨rfl, by rw [filtI hy, if_neg q, List.append_nil]⟩
  · rintro acc k' ⟨rfl, rfl⟩ _
    rw [List.length_map, List.take_length]
    exact h
theorem r_piece_around (BC : Addr) (X : List Addr) (ds : List D) (k : Nat) (R : D → Nat → Prop) (h : sp_piece_around BC ds k R) : t_piece_around BC (En R) (St0 false 8 ds X k) := by
  obtain ⟨T, c, a, rfl, ht, hc, ha, h⟩ := h
  have lc := hc.le
  have sub : ∀ L : List Int, L.Nodup → (∀ x ∈ L, x ∈ c) → L.length ≤ 6 := fun L nd s => Nat.le_trans (nd.length_le_of_subset s) lc
  refine ⟨by decide, _, rfl, by show 1 ≤ lim; decide, ?_⟩
  refine ⟨fun m s' => ∃ (P F : List Int) (x5 x6 x7 : Sl), s' = ⟨X, [.dat (bnd BC T), .dat (tI c), .dat (.int a), .dat (lI P), .dat (lI F), x5, x6, x7], k⟩ ∧ (P ++ F).Nodup ∧ (∀ x ∈ P ++ F, Rch T c a x) ∧ a ∈ P ++ F ∧ (∀ x ∈ P, ∀ y ∈ c, adj T y x = true → y ∈ P ++ F) ∧ m + P.length = 7,
    ⟨7, [], [a], _, _, _, rfl, List.nodup_cons.mpr ⟨by simp, List.nodup_nil⟩, fun x hx => by rw [List.mem_singleton.mp hx]; exact .refl, List.mem_singleton.mpr rfl, (fun x hx => nomatch hx), rfl⟩, ?_⟩
  rintro m s' ⟨P, F, x5, x6, x7, rfl, nd, rc, aP, cl, hm⟩
  have inc : ∀ x ∈ P ++ F, x ∈ c := fun x hx => (rc x hx).mem ha
  have l6 := sub _ nd inc
  have lp := l6
  rw [List.length_append] at lp
  cases F with
  | nil =>
    rw [List.append_nil] at nd rc aP cl
    have pm := pc_perm ha hc.asc nd aP rc cl
    obtain ⟨q1, q2, q3⟩ := sortI_ok P
    refine ⟨_, rfl, _, rfl, iteF fun X' => ?_⟩
    refine ⟨_, rfl, _, rfl, q1, q2, q3, by rw [List.length_map]; exact l10k (by omega), _, rfl, ?_⟩
    rw [sort_ints, sort_asc pm (prt_pw (pc_prt T c a) hc.asc)]
    exact h
  | cons f F =>
    refine ⟨_, rfl, _, rfl, iteT ?_⟩
    refine ⟨_, rfl, _, rfl, by rw [List.length_map, List.length_map]; exact l10k (by omega), ?_⟩
    rw [← List.map_append]
    refine r_pa5 lc (r_pa4 ht (fun x hx => hc.wd x (inc x hx)) (fun x hx => hc.wd x (List.mem_filter.mp hx).1) (by omega) (Nat.le_trans (List.length_filter_le _ _) (by omega)) ?_)
    have mem : ∀ y, y ∈ ((c.filter fun x => !decide (x ∈ P ++ f :: F)).filter fun y => (P ++ f :: F).any fun x => adj T y x) ↔ y ∈ c ∧ y ∉ P ++ f :: F ∧ ∃ x ∈ P ++ f :: F, adj T y x = true := fun y => by
      rw [List.mem_filter, List.mem_filter, List.any_eq_true]
      constructor
      · rintro ⟨⟨h1, h2⟩, h3⟩
        exact ⟨h1, by simpa using h2, h3⟩
      · rintro ⟨h1, h2, h3⟩
        exact ⟨⟨h1, by simpa using h2⟩, h3⟩
    refine ⟨m - (F.length + 1), by omega, P ++ f :: F, _, _, _, _, rfl, ?_, ?_, List.mem_append_left _ aP, ?_, ?_⟩
    · refine List.nodup_append.mpr ⟨nd, ((asc_nodup hc.asc).filter _).filter _, fun x hx y hy e => ?_⟩
      exact ((mem y).mp hy).2.1 (e ▸ hx)
    · intro x hx
      rcases List.mem_append.mp hx with hx | hx
      · exact rc x hx
      · obtain ⟨h1, _, z, hz, hd⟩ := (mem x).mp hx
        exact .step (rc z hz) h1 hd
    · intro x hx y hy hd
      by_cases q : y ∈ P ++ f :: F
      · exact List.mem_append_left _ q
      · exact List.mem_append_right _ ((mem y).mpr ⟨hy, q, x, hx, hd⟩)
    · rw [List.length_append, List.length_cons] at *
      omega
end BW
set_option maxHeartbeats 1000000
namespace BW
open PySem L2 DL
open PySem.W (dataLe AllAlike Sortable dataLt rowLt)
theorem leI_eq (a b : List Int) : leI a b = decide (a ≤ b) := by
  show (!dataLt (.tuple (b.map .int)) (.tuple (a.map .int))) = _
  rw [PySem.W.dataLt_tuple]
  show (!rowLt (b.map .int) (a.map .int)) = _
  rw [PySem.W.dataLt_ints]
  by_cases h : b < a
  · have h' : ¬ a ≤ b := fun r => List.not_lt.mpr r h
    simp [h, h']
  · have h' : a ≤ b := List.not_lt.mp h
    simp [h, h']
theorem sort_pw (L : List (List Int)) : (L.mergeSort leI).Pairwise (· ≤ ·) := by
  refine (List.pairwise_mergeSort (le := leI) (fun a b c h1 h2 => ?_) (fun a b => ?_) L).imp fun h => ?_
  · rw [leI_eq] at *
    exact decide_eq_true (List.le_trans (of_decide_eq_true h1) (of_decide_eq_true h2))
  · rw [leI_eq, leI_eq]
    rcases List.le_total a b with h | h
    · rw [decide_eq_true h]; rfl
    · rw [decide_eq_true h, Bool.or_true]
  · rw [leI_eq] at h
    exact of_decide_eq_true h
theorem sort_same {L M : List (List Int)} (h1 : L.Nodup) (h2 : M.Nodup) (h : ∀ w, w ∈ L ↔ w ∈ M) : L.mergeSort leI = M.mergeSort leI := by
  refine List.Perm.eq_of_pairwise (le := fun a b : List Int => a ≤ b) (fun a b _ _ h1 h2 => List.le_antisymm h1 h2) (sort_pw L) (sort_pw M) ?_
  exact ((List.mergeSort_perm L leI).trans ((List.perm_ext_iff_of_nodup h1 h2).mpr h)).trans (List.mergeSort_perm M leI).symm
def onceL : List (List Int) → List (List Int)
  | [] => []
  | a :: l => if a ∈ l then onceL l else a :: onceL l
theorem mem_once {x : List Int} : ∀ {l : List (List Int)}, x ∈ onceL l ↔ x ∈ l
  | [] => Iff.rfl
  | a :: l => by
    unfold onceL
    by_cases h : a ∈ l
    · rw [if_pos h, mem_once, List.mem_cons]
      exact ⟨.inr, fun q => by rcases q with rfl | q; exact h; exact q⟩
    · rw [if_neg h, List.mem_cons, List.mem_cons, mem_once]
theorem nodup_once : ∀ {l : List (List Int)}, (onceL l).Nodup
  | [] => List.nodup_nil
  | a :: l => by
    unfold onceL
    by_cases h : a ∈ l
    · rw [if_pos h]; exact nodup_once
    · rw [if_neg h]; exact List.nodup_cons.mpr ⟨fun q => h (mem_once.mp q), nodup_once⟩
def pcs (T : Mat) : List (List Int) := (onceL ((ltrs T.length).map (pc T (ltrs T.length)))).mergeSort leI
theorem pcs_of {T : Mat} {L : List (List Int)} (nd : L.Nodup) (h : ∀ w, w ∈ L ↔ w ∈ (ltrs T.length).map (pc T (ltrs T.length))) : L.mergeSort leI = pcs T :=
  sort_same nd nodup_once fun w => (h w).trans mem_once.symm
theorem ltrs_mem {n : Nat} {a : Int} : a ∈ ltrs n ↔ 1 ≤ a ∧ a ≤ n := by
  unfold ltrs
  rw [List.mem_map]
  constructor
  · rintro ⟨i, hi, rfl⟩
    have := List.mem_range.mp hi
    omega
  · rintro ⟨h1, h2⟩
    exact ⟨(a - 1).toNat, List.mem_range.mpr (by omega), by omega⟩
theorem ltrs_asc (n : Nat) : (ltrs n).Pairwise (· < ·) := by
  unfold ltrs
  exact List.pairwise_map.mpr (List.pairwise_lt_range.imp fun h => by omega)
theorem ltrs_len (n : Nat) : (ltrs n).length = n := by unfold ltrs; rw [List.length_map, List.length_range]
theorem ltrs_chc {n : Nat} (h : n ≤ 6) : Chc n (ltrs n) := ⟨fun a ha => ltrs_mem.mp ha, ltrs_asc n, by rw [ltrs_len]; exact h⟩
def hngB (T : Mat) (c : List Int) : Bool := decide (c ≠ [] ∧ pc T c (c.getD 0 0) = c)
def sp_hangs_together (BC : Addr) : DSp := fun ds k R => ∃ T c, ds = [bnd BC T, tI c] ∧ Tab T ∧ Chc T.length c ∧ R (.bl (hngB T c)) k
def sp_pieces (BC : Addr) : DSp := fun ds k R => ∃ T, ds = [bnd BC T] ∧ Tab T ∧ R (.tup ((pcs T).map tI)) k
def sp__law_hangs : DSp := fun ds k R => ∃ T c, ds = [lM T, tI c] ∧ Tab T ∧ Chc T.length c ∧ R (.bl (hngB T c)) k
abbrev t_hangs_together (BC : Addr) : DS := (dSeq (dDrop (dCall (sp_check_choice BC) (dCons (dVar 0) (dCons (dVar 1) dNil))))
  (dRet (dAndV (dOp oGt (dLenN 1) (dC (.int 0))) (dOp oEq (dCall (sp_piece_around BC) (dCons (dVar 0) (dCons (dVar 1) (dCons (dIxN 1 (dC (.int 0))) dNil)))) (dVar 1)))))
abbrev t_pieces (BC : Addr) : DS := (dSeq (dSet 1 (dCall (sp_all_letters BC) (dCons (dVar 0) dNil)))
  (dRet (dTupOf (dFr (dSortSetC (iTp (dVar 1)) (dgN 2) (dCall (sp_piece_around BC) (dCons (dVar 0) (dCons (dVar 1) (dCons (dVar 2) dNil)))) [2])))))
theorem r_hangs_together (BC : Addr) (X : List Addr) (ds : List D) (k : Nat) (R : D → Nat → Prop) (h : sp_hangs_together BC ds k R) : t_hangs_together BC (En R) (St0 false 2 ds X k) := by
  obtain ⟨T, c, rfl, ht, hc, h⟩ := h
  refine ⟨_, rfl, _, rfl, T, c, rfl, ht, hc, ?_⟩
  intro X
  cases c with
  | nil => exact ⟨_, rfl, false, rfl, iteF h⟩
  | cons a c =>
    refine ⟨_, rfl, true, ?_, iteT ?_⟩
    · show D.bl (decide ((0 : Int) < (((a :: c).map D.int).length : Nat))) = D.bl true
      rw [decide_eq_true (by rw [List.length_map, List.length_cons]; omega)]
    · refine ⟨_, rfl, _, rfl, _, rfl, 0, _, rfl, at0 _ _, T, a :: c, a, rfl, ht, hc, List.mem_cons_self, _, rfl, okE_tupI _, okE_tupI _, ?_⟩
      rw [eqv_tupI]
      have e : hngB T (a :: c) = decide (pc T (a :: c) a = a :: c) := by
        unfold hngB
        by_cases q : pc T (a :: c) a = a :: c
        · rw [decide_eq_true q, decide_eq_true]
          exact ⟨(fun z => by cases z), q⟩
        · rw [decide_eq_false q, decide_eq_false]
          exact fun z => q z.2
      rw [e] at h
      exact h
theorem r_pieces (BC : Addr) (X : List Addr) (ds : List D) (k : Nat) (R : D → Nat → Prop) (h : sp_pieces BC ds k R) : t_pieces BC (En R) (St0 false 3 ds X k) := by
  obtain ⟨T, rfl, ht, h⟩ := h
  have hT := ht.hi
  refine ⟨_, rfl, T, rfl, ht, ?_⟩
  intro X
  refine ⟨_, rfl, _, rfl, by rw [List.length_map, ltrs_len]; omega, fun p hp => ⟨fun j acc k' => k' = k ∧ acc = ((ltrs T.length).take j).map (pc T (ltrs T.length)), ⟨rfl, rfl⟩, ?_, ?_⟩⟩
  · rintro j d acc k' hd ⟨rfl, rfl⟩
    rw [List.getElem?_map] at hd
    obtain ⟨a, ha, rfl⟩ := Option.map_eq_some_iff.mp hd
    have am := List.mem_of_getElem? ha
    refine ⟨_, rfl, _, rfl, _, rfl, T, ltrs T.length, a, rfl, ht, ltrs_chc hT, am, _, rfl, ?_, rfl, ?_⟩
    · exact List.ne_nil_of_mem ((pc_mem am).mpr .refl)
    · rw [List.take_succ, ha, List.map_append]; rfl
  · rintro acc k' ⟨rfl, rfl⟩ L nd mL
    rw [List.length_map, List.take_length] at mL
    rw [pcs_of nd mL]
    exact ⟨_, rfl, h⟩
end BW
set_option maxHeartbeats 1000000
namespace BW
open PySem L2 DL
theorem prt_full {c S : List Int} (h : Prt c S) : S.length = c.length ↔ S = c := by
  obtain ⟨p, rfl⟩ := h
  exact ⟨fun e => List.Sublist.eq_of_length (List.filter_sublist) e, fun e => by rw [e]⟩
def nw (T : Mat) (c F : List Int) : List Int := c.filter fun y => !decide (y ∈ F) && F.any fun x => adj T x y
theorem mem_nw {T : Mat} {c F : List Int} {y : Int} : y ∈ nw T c F ↔ y ∈ c ∧ y ∉ F ∧ ∃ x ∈ F, adj T x y = true := by
  unfold nw
  rw [List.mem_filter, Bool.and_eq_true, List.any_eq_true]
  simp
abbrev t_hg2 : DS := (dSet 2 (dOp oAdd (dVar 2) (dFr (dLc (iTp (dVar 1)) (dgN 4) (dAnd (dTB (dOp oNin (dVar 4) (dVar 2))) (dTru (dCall sp__law_near_of (dCons (dVar 0) (dCons (dVar 2) (dCons (dVar 4) dNil)))))) (dVar 4) [4]))))
theorem r_hg2 {X : List Addr} {k : Nat} {DD : DEnds} {x3 x4 : Sl} {T : Mat} {c F : List Int} (ht : Tab T) (hc : Chc T.length c) (hF : Wd T.length F) (lF : F.length ≤ 6)
    (h : DD.nx ⟨X, [.dat (lM T), .dat (tI c), .dat (lI (F ++ nw T c F)), x3, x4], k⟩) : t_hg2 DD ⟨X, [.dat (lM T), .dat (tI c), .dat (lI F), x3, x4], k⟩ := by
  have lc := hc.le
  refine ⟨_, rfl, _, rfl, _, rfl, by rw [List.length_map]; exact l10k (by omega), fun p hp => ⟨fun j acc k' => k' = k ∧ acc = ((c.take j).filter fun y => !decide (y ∈ F) && F.any fun x => adj T x y).map D.int, ⟨rfl, rfl⟩, ?_, ?_⟩⟩
  · rintro j d acc k' hd ⟨rfl, rfl⟩ _
    rw [List.getElem?_map] at hd
    obtain ⟨y, hy, rfl⟩ := Option.map_eq_some_iff.mp hd
    have b := hc.wd y (List.mem_of_getElem? hy)
    refine ⟨_, rfl, _, rfl, rfl, _, rfl, flat_ints _, _, rfl, ?_⟩
    rw [inV_mem]
    by_cases q : y ∈ F
    · rw [decide_eq_true q]
      exact iteF (iteF ⟨rfl, by rw [filtI hy, if_neg (by rw [decide_eq_true q]; exact fun z => by cases z), List.append_nil]⟩)
    · rw [decide_eq_false q]
      refine iteT ⟨_, rfl, _, rfl, _, rfl, T, F, y, rfl, ht, hF, by omega, b.1, b.2, _, rfl, ?_⟩
      by_cases q2 : (F.any fun x => adj T x y) = true
      · rw [q2]
        exact iteT ⟨_, rfl, rfl, by rw [filtI hy, if_pos (by rw [decide_eq_false q, q2]; rfl), List.map_append]; rfl⟩
      · rw [Bool.eq_false_iff.mpr q2]
        exact iteF ⟨rfl, by rw [filtI hy, if_neg (by rw [Bool.eq_false_iff.mpr q2, Bool.and_false]; decide), List.append_nil]⟩
  · rintro acc k' ⟨rfl, rfl⟩ _
    rw [List.length_map, List.take_length]
    have ln : (nw T c F).length ≤ 6 := Nat.le_trans (List.length_filter_le _ _) lc
    refine ⟨by rw [List.length_map, List.length_map]; exact l10k (by unfold nw at ln; omega), ?_⟩
    rw [← List.map_append]
    exact h
abbrev t__law_hangs : DS := (dSeq (dSet 2 (dFr (dLstOf (dSl (dVar 1) dON (dOS (dC (.int 1)))))))
  (dSeq (dFor (iTp (dVar 1)) (dgN 3) t_hg2)
  (dRet (dAndV (dOp oGt (dLenN 1) (dC (.int 0))) (dOp oEq (dLenN 2) (dLenN 1))))))
theorem r__law_hangs (X : List Addr) (ds : List D) (k : Nat) (R : D → Nat → Prop) (h : sp__law_hangs ds k R) : t__law_hangs (En R) (St0 false 5 ds X k) := by
  obtain ⟨T, c, rfl, ht, hc, h⟩ := h
  have lc := hc.le
  refine ⟨_, rfl, 1, rfl, _, rfl, ?_⟩
  rw [cut_to (z := 1) (k := 1) rfl, ← List.map_take]
  cases c with
  | nil =>
    refine ⟨_, rfl, _, rfl, fun i s' => ∃ x3 x4, s' = ⟨X, [.dat (lM T), .dat (tI []), .dat (lI []), x3, x4], k⟩, ⟨_, _, rfl⟩, ?_, ?_⟩
    · rintro i d s' hd _
      cases hd
    · rintro s' ⟨x3, x4, rfl⟩ X'
      exact ⟨_, rfl, false, rfl, iteF h⟩
  | cons a c =>
    have ha : a ∈ a :: c := List.mem_cons_self
    refine ⟨_, rfl, _, rfl, fun i s' => ∃ (F : List Int) (x3 x4 : Sl), s' = ⟨X, [.dat (lM T), .dat (tI (a :: c)), .dat (lI F), x3, x4], k⟩ ∧ F.Nodup ∧ (∀ x ∈ F, Rch T (a :: c) a x) ∧ a ∈ F ∧ (Clo T (a :: c) F ∨ i + 1 ≤ F.length),
      ⟨[a], _, _, rfl, List.nodup_cons.mpr ⟨by simp, List.nodup_nil⟩, fun x hx => by rw [List.mem_singleton.mp hx]; exact .refl, List.mem_singleton.mpr rfl, .inr (Nat.le_refl 1)⟩, ?_, ?_⟩
    · rintro i d s' hd ⟨F, x3, x4, rfl, nd, rc, aF, cl⟩
      have inc : ∀ x ∈ F, x ∈ a :: c := fun x hx => (rc x hx).mem ha
      have hF : Wd T.length F := fun x hx => hc.wd x (inc x hx)
      have lF : F.length ≤ 6 := Nat.le_trans (nd.length_le_of_subset inc) lc
      refine r_hg2 ht hc hF lF ?_
      refine ⟨F ++ nw T (a :: c) F, _, _, rfl, ?_, ?_, List.mem_append_left _ aF, ?_⟩
      · exact List.nodup_append.mpr ⟨nd, (asc_nodup hc.asc).filter _, fun x hx y hy e => (mem_nw.mp hy).2.1 (e ▸ hx)⟩
      · intro y hy
        rcases List.mem_append.mp hy with hy | hy
        · exact rc y hy
        · obtain ⟨h1, _, x, hx, hd⟩ := mem_nw.mp hy
          exact .step (rc x hx) h1 (by rw [adj_symm ht (hc.wd y h1) (hF x hx)]; exact hd)
      · have nil_of : Clo T (a :: c) F → nw T (a :: c) F = [] := fun q => List.eq_nil_iff_forall_not_mem.mpr fun y hy => by
          obtain ⟨h1, h2, x, hx, hd⟩ := mem_nw.mp hy
          exact h2 (q x hx y h1 (by rw [adj_symm ht (hc.wd y h1) (hF x hx)]; exact hd))
        cases e : nw T (a :: c) F with
        | nil =>
          left
          rw [List.append_nil]
          intro x hx y hy hd
          by_cases q : y ∈ F
          · exact q
          · have : y ∈ nw T (a :: c) F := mem_nw.mpr ⟨hy, q, x, hx, by rw [adj_symm ht (hF x hx) (hc.wd y hy)]; exact hd⟩
            rw [e] at this
            cases this
        | cons z N =>
          right
          rcases cl with cl | cl
          · rw [nil_of cl] at e; cases e
          · rw [List.length_append, List.length_cons]; omega
    · rintro s' ⟨F, x3, x4, rfl, nd, rc, aF, cl⟩ X'
      have inc : ∀ x ∈ F, x ∈ a :: c := fun x hx => (rc x hx).mem ha
      have l1 := nd.length_le_of_subset inc
      have cl : Clo T (a :: c) F := by
        rcases cl with cl | cl
        · exact cl
        · rw [List.length_map] at cl; omega
      have pl := (pc_perm ha hc.asc nd aF rc cl).length_eq
      refine ⟨_, rfl, true, ?_, iteT ⟨_, rfl, _, rfl, rfl, rfl, ?_⟩⟩
      · show D.bl (decide ((0 : Int) < (((a :: c).map D.int).length : Nat))) = D.bl true
        rw [decide_eq_true (by rw [List.length_map, List.length_cons]; omega)]
      · rw [eqvI, List.length_map, List.length_map, pl]
        have e : hngB T (a :: c) = decide (((pc T (a :: c) a).length : Int) = ((a :: c).length : Nat)) := by
          unfold hngB
          by_cases q : pc T (a :: c) a = a :: c
          · rw [decide_eq_true, decide_eq_true]
            · rw [q]
            · exact ⟨(fun z => by cases z), q⟩
          · rw [decide_eq_false, decide_eq_false]
            · exact fun z => q ((prt_full (pc_prt T (a :: c) a)).mp (by omega))
            · exact fun z => q z.2
        rw [e] at h
        exact h
end BW
set_option maxHeartbeats 1000000
namespace BW
open PySem L2 DL
theorem asc_ext {c d : List Int} (hc : c.Pairwise (· < ·)) (hd : d.Pairwise (· < ·)) (h : ∀ x, x ∈ c ↔ x ∈ d) : c = d :=
  List.Perm.eq_of_pairwise (le := fun a b : Int => a ≤ b) (fun a b _ _ h1 h2 => Int.le_antisymm h1 h2) (hc.imp fun h => Int.le_of_lt h) (hd.imp fun h => Int.le_of_lt h) ((List.perm_ext_iff_of_nodup (asc_nodup hc) (asc_nodup hd)).mpr h)
theorem chs_asc : ∀ (n : Nat), ∀ c ∈ chs n, c.Pairwise (· < ·)
  | 0, c, h => by rw [List.mem_singleton.mp h]; exact .nil
  | n + 1, c, h => by
    rcases List.mem_append.mp h with h | h
    · exact chs_asc n c h
    · obtain ⟨d, hd, rfl⟩ := List.mem_map.mp h
      refine List.pairwise_append.mpr ⟨chs_asc n d hd, List.pairwise_singleton _ _, fun x hx y hy => ?_⟩
      have := (chs_wd n d hd).1 x hx
      rw [List.mem_singleton.mp hy]
      omega
theorem mem_chs : ∀ (n : Nat) (c : List Int), Wd n c → c.Pairwise (· < ·) → c ∈ chs n
  | 0, c, hw, _ => by
    cases c with
    | nil => exact List.mem_singleton.mpr rfl
    | cons a c => have := hw a List.mem_cons_self; omega
  | n + 1, c, hw, hc => by
    by_cases q : (n : Int) + 1 ∈ c
    · refine List.mem_append_right _ (List.mem_map.mpr ⟨c.filter fun x => decide (x ≤ n), mem_chs n _ (fun x hx => ?_) (hc.filter _), ?_⟩)
      · obtain ⟨h1, h2⟩ := List.mem_filter.mp hx
        have := hw x h1
        have := of_decide_eq_true h2
        omega
      · refine asc_ext (List.pairwise_append.mpr ⟨hc.filter _, List.pairwise_singleton _ _, fun x hx y hy => ?_⟩) hc fun x => ?_
        · have := of_decide_eq_true (List.mem_filter.mp hx).2
          rw [List.mem_singleton.mp hy]; omega
        · rw [List.mem_append, List.mem_filter, List.mem_singleton]
          constructor
          · rintro (h | rfl)
            · exact h.1
            · exact q
          · intro h
            have := hw x h
            by_cases e : x ≤ (n : Int)
            · exact .inl ⟨h, decide_eq_true e⟩
            · exact .inr (by omega)
    · refine List.mem_append_left _ (mem_chs n c (fun x hx => ?_) hc)
      have := hw x hx
      have : x ≠ (n : Int) + 1 := fun e => q (e ▸ hx)
      omega
theorem hng_iff {T : Mat} (ht : Tab T) {c : List Int} (hw : Wd T.length c) : hngB T c = true ↔ Hng T c := by
  unfold hngB
  rw [decide_eq_true_eq]
  cases c with
  | nil => exact ⟨fun h => absurd rfl h.1, fun ⟨a, ha, _⟩ => nomatch ha⟩
  | cons a c =>
    have ha : a ∈ a :: c := List.mem_cons_self
    show _ ∧ pc T (a :: c) a = a :: c ↔ _
    constructor
    · exact fun h => ⟨a, ha, (pc_all ha).mp h.2⟩
    · exact fun h => ⟨(fun z => by cases z), (pc_all ha).mpr fun x hx => h.from ht hw ha hx⟩
theorem pc_chs {T : Mat} {a : Int} : pc T (ltrs T.length) a ∈ chs T.length :=
  mem_chs _ _ (fun x hx => ltrs_mem.mp (prt_sub (pc_prt T _ a) x hx)) (prt_pw (pc_prt T _ a) (ltrs_asc _))
def dueL (T : Mat) (cs : List (List Int)) : List (List Int) := cs.filter (hngB T)
def grt (ds : List (List Int)) : List (List Int) := ds.filter fun c => decide ((ds.filter fun d => !decide (c = d) && c.all fun x => decide (x ∈ d)) = [])
theorem mem_grt {T : Mat} (ht : Tab T) {cs : List (List Int)} (hcs : ∀ c, c ∈ cs ↔ c ∈ chs T.length) (w : List Int) : w ∈ grt (dueL T cs) ↔ w ∈ (ltrs T.length).map (pc T (ltrs T.length)) := by
  have due : ∀ c, c ∈ dueL T cs ↔ c ∈ chs T.length ∧ Hng T c := fun c => by
    unfold dueL
    rw [List.mem_filter, hcs]
    exact ⟨fun h => ⟨h.1, (hng_iff ht (chs_wd _ c h.1).1).mp h.2⟩, fun h => ⟨h.1, (hng_iff ht (chs_wd _ c h.1).1).mpr h.2⟩⟩
  unfold grt
  rw [List.mem_filter, decide_eq_true_eq, List.filter_eq_nil_iff, List.mem_map, due]
  have nt : ∀ d, ¬ (!decide (w = d) && w.all fun x => decide (x ∈ d)) = true ↔ ((∀ x ∈ w, x ∈ d) → w = d) := fun d => by
    rw [Bool.and_eq_true, List.all_eq_true]
    by_cases e : w = d
    · simp [e]
    · simp [e]
  constructor
  · rintro ⟨⟨h1, h2⟩, h3⟩
    obtain ⟨a, ha, h⟩ := h2
    have wl : ∀ x ∈ w, x ∈ ltrs T.length := fun x hx => ltrs_mem.mpr ((chs_wd _ w h1).1 x hx)
    have al := wl a ha
    refine ⟨a, al, ?_⟩
    have sub : ∀ x ∈ w, x ∈ pc T (ltrs T.length) a := hng_sub ht al wl (chs_wd _ w h1).1 ⟨a, ha, h⟩ ha ((pc_mem al).mpr .refl)
    exact ((nt _).mp (h3 _ ((due _).mpr ⟨pc_chs, pc_hng al⟩)) sub).symm
  · rintro ⟨a, al, rfl⟩
    refine ⟨⟨pc_chs, pc_hng al⟩, fun d hd => (nt d).mpr fun sub => ?_⟩
    obtain ⟨d1, d2⟩ := (due d).mp hd
    have aP : a ∈ pc T (ltrs T.length) a := (pc_mem al).mpr .refl
    refine asc_ext (prt_pw (pc_prt T _ a) (ltrs_asc _)) (chs_asc _ d d1) fun x => ⟨sub x, ?_⟩
    exact hng_sub ht al (fun x hx => ltrs_mem.mpr ((chs_wd _ d d1).1 x hx)) (chs_wd _ d d1).1 d2 (sub a aP) aP x
theorem mem_pcs {T : Mat} {w : List Int} : w ∈ pcs T ↔ ∃ a ∈ ltrs T.length, pc T (ltrs T.length) a = w := by
  unfold pcs
  rw [(List.mergeSort_perm _ leI).mem_iff, mem_once, List.mem_map]
theorem pcs_nodup {T : Mat} : (pcs T).Nodup := (List.mergeSort_perm _ leI).nodup_iff.mpr nodup_once
theorem pc_same {T : Mat} (ht : Tab T) {a b x : Int} (ha : a ∈ ltrs T.length) (hb : b ∈ ltrs T.length) (h1 : x ∈ pc T (ltrs T.length) a) (h2 : x ∈ pc T (ltrs T.length) b) : pc T (ltrs T.length) a = pc T (ltrs T.length) b := by
  have lw : Wd T.length (ltrs T.length) := fun x hx => ltrs_mem.mp hx
  have sb : ∀ {a : Int}, ∀ x ∈ pc T (ltrs T.length) a, x ∈ ltrs T.length := fun {a} x hx => prt_sub (pc_prt T _ a) x hx
  exact prt_ext (pc_prt T _ a) (pc_prt T _ b) fun y =>
    ⟨hng_sub ht hb (fun x hx => sb x hx) (fun x hx => lw x (sb x hx)) (pc_hng ha) h1 h2 y, hng_sub ht ha (fun x hx => sb x hx) (fun x hx => lw x (sb x hx)) (pc_hng hb) h2 h1 y⟩
theorem pcs_flat {T : Mat} (ht : Tab T) : (pcs T).flatten.Perm (ltrs T.length) := by
  refine (List.perm_ext_iff_of_nodup (List.pairwise_flatten.mpr ⟨fun w hw => ?_, ?_⟩) (asc_nodup (ltrs_asc _))).mpr fun x => ?_
  · obtain ⟨a, ha, rfl⟩ := mem_pcs.mp hw
    exact asc_nodup (prt_pw (pc_prt T _ a) (ltrs_asc _))
  · refine List.Pairwise.imp_of_mem (R := fun a b => a ≠ b) (fun {u v} hu hv ne => ?_) pcs_nodup
    obtain ⟨a, ha, rfl⟩ := mem_pcs.mp hu
    obtain ⟨b, hb, rfl⟩ := mem_pcs.mp hv
    intro x h1 y h2 e
    exact ne (pc_same ht ha hb h1 (e ▸ h2))
  · rw [List.mem_flatten]
    constructor
    · rintro ⟨w, hw, hx⟩
      obtain ⟨a, ha, rfl⟩ := mem_pcs.mp hw
      exact prt_sub (pc_prt T _ a) x hx
    · intro hx
      exact ⟨_, mem_pcs.mpr ⟨x, hx, rfl⟩, (pc_mem hx).mpr .refl⟩
theorem pl_two {T : Mat} (ht : Tab T) {r : List Int} (hr : r.length = T.length) {a b : Int} (ha : 1 ≤ a ∧ a ≤ T.length) (hb : 1 ≤ b ∧ b ≤ T.length) (ne : a ≠ b) (h : adj T a b = false) : pl T r [a, b] = pl T r [b, a] := by
  have e2 : at2 T (ix a) (ix b) = 2 := by
    unfold adj at h
    simpa using h
  have hi : ix a < T.length := by unfold ix; omega
  have hj : ix b < T.length := by unfold ix; omega
  have p := pl_alt ht hr hi hj (by unfold ix; omega) (by rw [e2]; decide)
  rw [e2, show ((ix a : Nat) : Int) + 1 = a by unfold ix; omega, show ((ix b : Nat) : Int) + 1 = b by unfold ix; omega] at p
  exact p
theorem pl_appL (T : Mat) (r u v : List Int) : pl T r (u ++ v) = pl T (pl T r u) v := by unfold pl; rw [List.foldl_append]
theorem pl_out {T : Mat} (ht : Tab T) {x : Int} (hx : 1 ≤ x ∧ x ≤ T.length) : ∀ {u r : List Int}, r.length = T.length → Wd T.length u → (∀ y ∈ u, x ≠ y ∧ adj T x y = false) → pl T r (x :: u) = pl T r (u ++ [x])
  | [], _, _, _, _ => rfl
  | y :: u, r, hr, hu, h => by
    have hy := h y List.mem_cons_self
    have by_ := hu y List.mem_cons_self
    have e : pl T r (x :: y :: u) = pl T (pl T r [y, x]) u := by rw [← pl_two ht hr hx by_ hy.1 hy.2]; rfl
    rw [e]
    show pl T (press T r (ix y)) (x :: u) = pl T (press T r (ix y)) (u ++ [x])
    exact pl_out ht hx (by rw [press_length]) (fun z hz => hu z (List.mem_cons_of_mem _ hz)) fun z hz => h z (List.mem_cons_of_mem _ hz)
theorem pl_parts {T : Mat} (ht : Tab T) (p : Int → Bool) : ∀ {w r : List Int}, r.length = T.length → Wd T.length w → (∀ x ∈ w, ∀ y ∈ w, p x = false → p y = true → adj T x y = false) → pl T r w = pl T r (w.filter p ++ w.filter fun x => !p x)
  | [], _, _, _, _ => rfl
  | x :: w, r, hr, hw, h => by
    have ih := pl_parts ht p (w := w) (r := press T r (ix x)) (by rw [press_length]) (fun z hz => hw z (List.mem_cons_of_mem _ hz)) fun a ha b hb => h a (List.mem_cons_of_mem _ ha) b (List.mem_cons_of_mem _ hb)
    show pl T (press T r (ix x)) w = _
    rw [ih, List.filter_cons, List.filter_cons]
    cases q : p x with
    | true => rfl
    | false =>
      show pl T r (x :: (w.filter p ++ w.filter fun x => !p x)) = pl T r (w.filter p ++ x :: w.filter fun x => !p x)
      rw [← List.cons_append, pl_appL, pl_out ht (hw x List.mem_cons_self) hr (fun z hz => hw z (List.mem_cons_of_mem _ (List.mem_filter.mp hz).1)) fun y hy => ?_, ← pl_appL, List.append_assoc]
      · rfl
      · obtain ⟨h1, h2⟩ := List.mem_filter.mp hy
        exact ⟨fun e => (by rw [e, h2] at q; cases q), h x List.mem_cons_self y (List.mem_cons_of_mem _ h1) q h2⟩
theorem row_parts {T : Mat} (ht : Tab T) {w P : List Int} (hw : Wd T.length w) (hP : P ∈ pcs T) :
    row T w = row T (w.filter (fun x => decide (x ∈ P)) ++ w.filter fun x => !decide (x ∈ P)) ∧
    row T (w.filter (fun x => !decide (x ∈ P)) ++ w.filter fun x => decide (x ∈ P)) = row T (w.filter (fun x => decide (x ∈ P)) ++ w.filter fun x => !decide (x ∈ P)) := by
  obtain ⟨a, ha, rfl⟩ := mem_pcs.mp hP
  have lw : Wd T.length (ltrs T.length) := fun x hx => ltrs_mem.mp hx
  have off : ∀ x ∈ w, ∀ y ∈ w, x ∉ pc T (ltrs T.length) a → y ∈ pc T (ltrs T.length) a → adj T x y = false := fun x hx y hy h1 h2 => by
    cases q : adj T x y with
    | false => rfl
    | true => exact absurd ((pc_mem ha).mpr (.step ((pc_mem ha).mp h2) (ltrs_mem.mpr (hw x hx)) q)) h1
  have l1 : (one T).length = T.length := one_len T
  have e1 : row T w = row T (w.filter (fun x => decide (x ∈ pc T (ltrs T.length) a)) ++ w.filter fun x => !decide (x ∈ pc T (ltrs T.length) a)) :=
    pl_parts ht (fun x => decide (x ∈ pc T (ltrs T.length) a)) l1 hw fun x hx y hy h1 h2 => off x hx y hy (of_decide_eq_false h1) (of_decide_eq_true h2)
  have e2 : row T w = row T (w.filter (fun x => !decide (x ∈ pc T (ltrs T.length) a)) ++ w.filter fun x => !(!decide (x ∈ pc T (ltrs T.length) a))) :=
    pl_parts ht (fun x => !decide (x ∈ pc T (ltrs T.length) a)) l1 hw fun x hx y hy h1 h2 => by
      rw [adj_symm ht (hw x hx) (hw y hy)]
      exact off y hy x hx (by simpa using h2) (by simpa using h1)
  refine ⟨e1, ?_⟩
  rw [← e1, e2]
  simp only [Bool.not_not]
abbrev T56 : Mat := [[1, 2, 3], [2, 1, 2], [3, 2, 1]]
theorem tab56 : Tab T56 := by
  have h2 : ∀ i, i < 3 → ∀ j, j < 3 → at2 T56 i j = at2 T56 j i := by decide
  have h1 : ∀ i, i < 3 → ∀ j, j < 3 → i ≠ j → at2 T56 i j = 2 ∨ at2 T56 i j = 3 ∨ at2 T56 i j = 4 ∨ at2 T56 i j = 6 ∨ at2 T56 i j = 0 := by decide
  exact ⟨by decide, by decide, by decide, by decide, fun i j hi hj ne => h1 i hi j hj ne, fun i j hi hj => h2 i hi j hj⟩
theorem pcs56 : pcs T56 = [[1, 3], [2]] := by
  have e : [[1, 3], [2]].mergeSort leI = pcs T56 := pcs_of (by decide) fun w => by
    have : (ltrs T56.length).map (pc T56 (ltrs T56.length)) = [[1, 3], [2], [1, 3]] := by decide
    rw [this]
    simp only [List.mem_cons]
    constructor
    · rintro (h | h | h)
      · exact .inl h
      · exact .inr (.inl h)
      · cases h
    · rintro (h | h | h | h)
      · exact .inl h
      · exact .inr (.inl h)
      · exact .inl h
      · cases h
  rw [← e]
  refine List.Perm.eq_of_pairwise (le := fun a b : List Int => a ≤ b) (fun a b _ _ h1 h2 => List.le_antisymm h1 h2) (sort_pw _) (by decide) (List.mergeSort_perm _ leI)
end BW
namespace DL
open PySem L2
open PySem.W (Frag)
abbrev dIntB (t : DE) : DE := fun s Q => t s fun d k => ∃ b, d = .bl b ∧ Q (.int (if b = true then 1 else 0)) k
section
variable {X : Cx} {c : C} {p pos : Pos}
theorem pd_intB (hm : X.mg "int" = none) {e : Expr} {t : DE} (h : PE X e (LE c t)) (hg : Gl X "int" := by rfl) (hs : starEach [e] X.env = (false, eval e X.env) :: starEach [] X.env := by rfl) (hp : (backTo pos (starEach [] X.env)).any (·.1) = false := by rfl) :
    PE X (.Call (.Name "int" p) [e] [] pos) (LE c (dIntB t)) :=
  (pe_callTy call_int1 hg hm PyProof.Rows.boot_int (pa_cons h pa_nil hs) (he := hs) (hpl := hp)).weak fun σ H Q ⟨s, R, rp, q, f⟩ => ⟨s, _, rp, q, fun d k ⟨i, h1, h2⟩ v H1 r1 a1 e1 => by
    subst h1
    exact .inr ⟨i, by rw [e1.blE], f _ k h2 _ H1 r1 a1 (.int _)⟩⟩
end
end DL
set_option maxHeartbeats 1000000
namespace DL
open PySem PySem.Spec PyProof.Rows L2
open PySem.W (Frag)
section
variable {X : Cx} {c : C} {p pos apos : Pos} {e o : Expr} {t u : DE}
theorem Yl.str {s0 : S} {Hs : Hp} {x : PySem.Str} : Yl c s0 Hs (Its x) (x.cps.toList.map fun c => .str ⟨#[c]⟩) := fun i s σ H rp ad => by
  refine ⟨fun hl => by show x.cps.size ≤ i; rw [List.length_map, Array.length_toList] at hl; exact hl, fun d hd => ?_⟩
  rw [List.getElem?_map] at hd
  obtain ⟨z, hz, rfl⟩ := Option.map_eq_some_iff.mp hd
  rw [Array.getElem?_toList] at hz
  refine ⟨(Array.getElem?_eq_some_iff.mp hz).1, fun v H' ⟨e1, c1, e2, e3⟩ => ?_⟩
  subst e1 e3
  rw [hz] at e2
  cases e2
  exact ⟨rp, AdvE.refl, .str _⟩
end
end DL
set_option maxHeartbeats 1000000
namespace DL
open PySem PySem.Spec PyProof.Rows L2 L2G
open PySem.W (Frag)
end DL
set_option maxHeartbeats 1000000
set_option maxHeartbeats 1000000
set_option maxHeartbeats 1000000
namespace BW
open PySem L2 DL TL
abbrev c1 (c : Nat) : D := .str ⟨#[c]⟩
end BW
set_option maxHeartbeats 1000000
namespace BW
open PySem L2 DL TL
def sp__law_likeA : DSp := fun ds k R => ∃ x, ds = [x, x] ∧ ShwO x ∧ R (.bl true) k
abbrev t__law_likeA : DS := (dRet (dOp oEq (dRepA (dVar 0)) (dRepA (dVar 1))))
theorem r__law_likeA (X : List Addr) (ds : List D) (k : Nat) (R : D → Nat → Prop) (h : sp__law_likeA ds k R) : t__law_likeA (En R) (St0 false 2 ds X k) := by
  obtain ⟨x, rfl, sh, h⟩ := h
  intro X'
  refine ⟨_, rfl, sh, _, rfl, sh, ?_⟩
  show R (.bl (decide _)) k
  rw [decide_eq_true rfl]
  exact h
end BW
set_option maxHeartbeats 1000000
namespace BW
open PySem L2 DL
open PySem.W (dataLe AllAlike Sortable)
theorem many_ok {B : Nat} : ∀ {ds : List D}, (∀ d ∈ ds, d.plo = true ∧ d.shw = true ∧ d.py.depth ≤ 10 ∧ d.wg ≤ B) → ploA ds = true ∧ shwA ds = true ∧ PyData.depthAll (pyA ds) ≤ 10 ∧ wgA ds ≤ (B + 2) * ds.length
  | [], _ => ⟨rfl, rfl, Nat.zero_le _, Nat.zero_le _⟩
  | d :: r, h => by
    obtain ⟨a, b, c, e⟩ := many_ok (ds := r) fun x hx => h x (List.mem_cons_of_mem _ hx)
    obtain ⟨a1, b1, c1, e1⟩ := h d List.mem_cons_self
    refine ⟨?_, ?_, ?_, ?_⟩
    · show (d.plo && ploA r) = true
      rw [a1, a]; rfl
    · show (d.shw && shwA r) = true
      rw [b1, b]; rfl
    · show max d.py.depth (PyData.depthAll (pyA r)) ≤ 10
      omega
    · show d.wg + 2 + wgA r ≤ (B + 2) * (r.length + 1)
      rw [Nat.mul_add]
      omega
theorem shwO_tup {B : Nat} {ds : List D} (h : ∀ d ∈ ds, d.plo = true ∧ d.shw = true ∧ d.py.depth ≤ 10 ∧ d.wg ≤ B) (hb : (B + 2) * ds.length + 4 ≤ 1000000) : ShwO (.tup ds) := by
  obtain ⟨a, b, c, e⟩ := many_ok h
  have z : (1000000 : Nat) ≤ sizeLine := by decide
  exact ⟨a, b, by show PyData.depthAll (pyA ds) + 1 ≤ 60; omega, by show wgA ds + 4 ≤ _; omega⟩
theorem plo_ints : ∀ w : List Int, ploA (w.map D.int) = true
  | [] => rfl
  | _ :: r => plo_ints r
theorem tI_shown {n : Nat} {w : List Int} (hw : Wd n w) (n6 : n ≤ 6) (hl : w.length ≤ 6) : (tIs w).plo = true ∧ (tIs w).shw = true ∧ (tIs w).py.depth ≤ 10 ∧ (tIs w).wg ≤ 11600 := by
  obtain ⟨a, b, c, e⟩ := shw_ints (ns := w) fun z hz => small_log (by have := hw z hz; omega)
  refine ⟨plo_ints w, b, ?_, ?_⟩
  · show PyData.depthAll (pyA (w.map D.int)) + 1 ≤ 10
    rw [e]; decide
  · show wgA (w.map D.int) + 4 ≤ _
    rw [c]; omega
end BW
set_option maxHeartbeats 1000000
namespace BW
open PySem L2 DL
open PySem.W (dataLe AllAlike Sortable)
abbrev t_a56 : DS := (dSet 3 (dOp oAdd (dC (.int 1)) (dCallM 1 sp__law_draw (dCons (dC (.int 6)) dNil))))
abbrev t_b56 : DS := (dSet 4 (dCallM 1 sp__law_tableS (dCons (dVar 3) (dCons (dFr (dLs (dCons (dC (.int 2)) (dCons (dC (.int 2)) (dCons (dC (.int 2)) (dCons (dC (.int 3)) (dCons (dC (.int 4)) (dCons (dC (.int 0)) dNil)))))))) dNil))))
abbrev t_c56 (BC : Addr) : DS := (dPar2 5 6 (dxD (dCall (sp_Bonds BC) (dCons (dVar 4) dNil)) (dxD (dFr (dLs dNil)) dxN)))
abbrev t_d56 (BC : Addr) : DS := (dFor (iTp (dCallT (sp_choices_of BC) (dCons (dVar 5) dNil))) (dgN 7) (dSeq (dSet 8 (dCall sp__law_hangs (dCons (dVar 4) (dCons (dVar 7) dNil))))
  (dSeq (dIfS (dNot (dTru (dCall sp__law_likeA (dCons (dCall (sp_hangs_together BC) (dCons (dVar 5) (dCons (dVar 7) dNil))) (dCons (dVar 8) dNil))))) (dRet (dC (.bl false))) dNext)
  (dSet 6 (dOp oAdd (dVar 6) (dOp oMul (dFr (dLs (dCons (dVar 7) dNil))) (dIntB (dVar 8))))))))
abbrev t_e56 (BC : Addr) : DS := (dSet 9 (dCall (sp_pieces BC) (dCons (dVar 5) dNil)))
abbrev t_f56 : DS := (dSet 10 (dFr (dLc (iLst (dVar 6)) (dgN 14) (dTB (dOp oEq (dFr (dLc (iLst (dVar 6)) (dgN 15) (dAnd (dTB (dOp oNe (dVar 14) (dVar 15))) (dTru (dCall sp__law_is_in (dCons (dVar 14) (dCons (dVar 15) dNil))))) (dVar 15) [15])) (dFr (dLs dNil)))) (dVar 14) [14])))
abbrev t_g56 : DS := (dIfS (dNot (dTru (dCall sp__law_likeA (dCons (dVar 9) (dCons (dTupOf (dFr (dSorted (dVar 10)))) dNil))))) (dRet (dC (.bl false))) dNext)
abbrev t_h56 : DS := (dSet 11 (dFr (dLs dNil)))
abbrev t_i56 : DS := (dFor (iTp (dVar 9)) (dgN 12) (dSet 11 (dOp oAdd (dVar 11) (dFr (dLstN 12)))))
abbrev t_j56 : DS := (dIfS (dTB (dOp oNe (dFr (dSorted (dVar 11))) (dFr (dLr2 (dC (.int 1)) (dOp oAdd (dVar 3) (dC (.int 1))))))) (dRet (dC (.bl false))) dNext)
abbrev t_k56 : DS := (dSet 13 (dCallM 1 sp__law_wordL (dCons (dVar 3) (dCons (dC (.int 12)) dNil))))
abbrev t_l56 : DS := (dSet 14 (dFr (dLc (iLst (dVar 13)) (dgN 16) (dTB (dOp oIn (dVar 16) (dIxN 9 (dC (.int 0))))) (dVar 16) [16])))
abbrev t_m56 : DS := (dSet 15 (dFr (dLc (iLst (dVar 13)) (dgN 16) (dTB (dOp oNin (dVar 16) (dIxN 9 (dC (.int 0))))) (dVar 16) [16])))
abbrev t_n56 (BC : Addr) : DS := (dIfS (dOr (dNot (dTru (dCall (sp_alike BC) (dCons (dVar 5) (dCons (dVar 13) (dCons (dOp oAdd (dVar 14) (dVar 15)) dNil)))))) (dNot (dTru (dCall (sp_alike BC) (dCons (dVar 5) (dCons (dOp oAdd (dVar 15) (dVar 14)) (dCons (dOp oAdd (dVar 14) (dVar 15)) dNil))))))) (dRet (dC (.bl false))) dNext)
abbrev t_o56 (BC : Addr) : DS := (dRet (dOp oEq (dCall (sp_pieces BC) (dCons (dCall (sp_Bonds BC) (dCons (dFr (dLs (dCons (dFr (dLs (dCons (dC (.int 1)) (dCons (dC (.int 2)) (dCons (dC (.int 3)) dNil))))) (dCons (dFr (dLs (dCons (dC (.int 2)) (dCons (dC (.int 1)) (dCons (dC (.int 2)) dNil))))) (dCons (dFr (dLs (dCons (dC (.int 3)) (dCons (dC (.int 2)) (dCons (dC (.int 1)) dNil))))) dNil))))) dNil)) dNil)) (dTup (dCons (dTup (dCons (dC (.int 1)) (dCons (dC (.int 3)) dNil))) (dCons (dTup (dCons (dC (.int 2)) dNil)) dNil)))))
abbrev t_law56 (BC : Addr) (K : PySem.W.Frag) : DS := (dSeq (dFor (iR1 (dC (.int 3))) (dgN 2) (dSeq t_a56
  (dSeq t_b56
  (dSeq (t_c56 BC)
  (dSeq (t_d56 BC)
  (dSeq (t_e56 BC)
  (dSeq t_f56
  (dSeq t_g56
  (dSeq t_h56
  (dSeq t_i56
  (dSeq t_j56
  (dSeq t_k56
  (dSeq t_l56
  (dSeq t_m56
  (t_n56 BC)))))))))))))))
  (t_o56 BC))
theorem shw_bl (b : Bool) : ShwO (.bl b) := by cases b <;> exact ⟨rfl, rfl, by show 0 ≤ 60; decide, by decide⟩
def chL (n : Nat) : List (List Int) := (chs n).mergeSort fun a b => dataLe false kLen (tIs a) (tIs b)
theorem chL_map (n : Nat) : (chL n).map tI = chD n := by
  unfold chL chD
  exact List.map_mergeSort fun a _ b _ => rfl
theorem chL_mem {n : Nat} (c : List Int) : c ∈ chL n ↔ c ∈ chs n := List.mem_mergeSort
theorem chs_nodup : ∀ n, (chs n).Nodup
  | 0 => List.nodup_cons.mpr ⟨by simp, List.nodup_nil⟩
  | n + 1 => by
    refine List.nodup_append.mpr ⟨chs_nodup n, List.pairwise_map.mpr ((chs_nodup n).imp fun h e => h (List.append_cancel_right e)), fun x hx y hy e => ?_⟩
    obtain ⟨d, hd, rfl⟩ := List.mem_map.mp hy
    have := (chs_wd n x hx).1 ((n : Int) + 1) (by rw [e]; exact List.mem_append_right _ (List.mem_singleton.mpr rfl))
    omega
theorem chL_nodup (n : Nat) : (chL n).Nodup := (List.mergeSort_perm _ _).nodup_iff.mpr (chs_nodup n)
theorem chL_len {n : Nat} (h : n ≤ 6) : (chL n).length ≤ 64 := by
  unfold chL
  rw [List.length_mergeSort, chs_len]
  exact pow6 h
theorem chL_chc {n : Nat} (h : n ≤ 6) {c : List Int} (hc : c ∈ chL n) : Chc n c := by
  have hc := (chL_mem c).mp hc
  obtain ⟨a, b⟩ := chs_wd n c hc
  exact ⟨a, chs_asc n c hc, by omega⟩
theorem due_len {T : Mat} (h : T.length ≤ 6) (j : Nat) : (dueL T ((chL T.length).take j)).length ≤ 64 := by
  refine Nat.le_trans (List.length_filter_le _ _) ?_
  rw [List.length_take]
  have := chL_len h
  omega
theorem flt_stepL {α : Type} {p : α → Bool} {l : List α} {j : Nat} {c : α} (h : l[j]? = some c) : (l.take (j + 1)).filter p = (l.take j).filter p ++ if p c = true then [c] else [] := by
  rw [List.take_succ, h, List.filter_append]
  by_cases q : p c = true <;> simp [q]
theorem due_step {T : Mat} {cs : List (List Int)} {j : Nat} {c : List Int} (h : cs[j]? = some c) : dueL T (cs.take (j + 1)) = dueL T (cs.take j) ++ if hngB T c = true then [c] else [] := by
  unfold dueL
  rw [List.take_succ, h, List.filter_append]
  by_cases q : hngB T c = true <;> simp [q]
theorem due_len' {T : Mat} (h : T.length ≤ 6) : (dueL T (chL T.length)).length ≤ 64 := Nat.le_trans (List.length_filter_le _ _) (chL_len h)
theorem due_small {T : Mat} (h : T.length ≤ 6) : ∀ c ∈ dueL T (chL T.length), c.length ≤ 6 := fun c hc => (chL_chc h (List.mem_filter.mp hc).1).le
theorem okE_tIs (L : List (List Int)) : (D.lst (L.map tI)).okE = true := (okE_mat (f := tI) (fun r => plain_ints r) (fun r => by show PyData.canLayAll0 (pyA (r.map D.int)) = true; rw [py_ints, lay_ints]) (fun r => by show PyData.depthAll (pyA (r.map D.int)) + 1 = 1; rw [py_ints, depth_ints]) L).1
theorem eqv_nilS (L : List (List Int)) : PyData.eqv (D.lst (L.map tI)).py (D.lst []).py = decide (L = []) := by
  cases L with
  | nil => decide +kernel
  | cons a L => rfl
theorem py_tI (w : List Int) : (tI w).py = pyI w := by
  show PyData.tuple (pyA (w.map D.int)) = _
  rw [py_ints]
theorem sort_rows (L : List (List Int)) : (L.map tI).mergeSort (dataLe false D.py) = (L.mergeSort leI).map tI := by
  refine (List.map_mergeSort fun a _ b _ => ?_).symm
  show (!PySem.W.dataLt (pyI b) (pyI a)) = !PySem.W.dataLt (tI b).py (tI a).py
  rw [py_tI, py_tI]
theorem sortT_ok (L : List (List Int)) (h : ∀ w ∈ L, w ≠ []) : (∀ x ∈ L.map tI, x.plain = true ∧ x.py.depth ≤ 60) ∧ AllAlike ((L.map tI).map D.py) ∧ Sortable ((L.map tI).map D.py) := by
  have e : (L.map tI).map D.py = L.map pyI := by rw [List.map_map]; exact List.map_congr_left fun w _ => py_tI w
  refine ⟨fun x hx => ?_, ?_, ?_⟩
  · obtain ⟨a, _, rfl⟩ := List.mem_map.mp hx
    refine ⟨plain_ints a, ?_⟩
    show PyData.depthAll (pyA (a.map D.int)) + 1 ≤ 60
    rw [py_ints, depth_ints]; decide
  · rw [e]
    exact AllAlike.of fun a b => alike_pyI a b
  · rw [e]
    refine .inl fun d hd => ?_
    obtain ⟨w, hw, rfl⟩ := List.mem_map.mp hd
    cases w with
    | nil => exact absurd rfl (h _ hw)
    | cons a w => exact ⟨_, _, rfl⟩
theorem grt_nodup {ds : List (List Int)} (h : ds.Nodup) : (grt ds).Nodup := h.filter _
theorem great_is {T : Mat} (ht : Tab T) : (grt (dueL T (chL T.length))).mergeSort leI = pcs T :=
  pcs_of (grt_nodup ((chL_nodup _).filter _)) (mem_grt ht chL_mem)
theorem grt_ne {T : Mat} (ht : Tab T) : ∀ w ∈ grt (dueL T (chL T.length)), w ≠ [] := fun w hw => by
  obtain ⟨a, ha, rfl⟩ := List.mem_map.mp ((mem_grt ht chL_mem w).mp hw)
  exact List.ne_nil_of_mem ((pc_mem ha).mpr .refl)
theorem pcs_chs {T : Mat} {w : List Int} (h : w ∈ pcs T) : w ∈ chs T.length := by
  obtain ⟨a, _, rfl⟩ := mem_pcs.mp h
  exact pc_chs
theorem pcs_len (T : Mat) : (pcs T).length ≤ T.length := by
  have h := (pcs_nodup (T := T)).length_le_of_subset (l₂ := (ltrs T.length).map (pc T (ltrs T.length))) fun w hw => by
    obtain ⟨a, ha, e⟩ := mem_pcs.mp hw
    exact List.mem_map.mpr ⟨a, ha, e⟩
  rw [List.length_map, ltrs_len] at h
  exact h
theorem pcs_shown {T : Mat} (n6 : T.length ≤ 6) : ShwO (tM (pcs T)) := by
  have := pcs_len T
  refine shwO_tup (B := 11600) (fun d hd => ?_) (by rw [List.length_map]; omega)
  obtain ⟨c, hc, rfl⟩ := List.mem_map.mp hd
  obtain ⟨a, b⟩ := chs_wd _ c (pcs_chs hc)
  exact tI_shown a n6 (by omega)
theorem flat_len {T : Mat} (ht : Tab T) (j : Nat) : ((pcs T).take j).flatten.length ≤ 6 := by
  have h := (pcs_flat ht).length_eq
  rw [ltrs_len] at h
  have hT := ht.hi
  have e : (pcs T).flatten = ((pcs T).take j).flatten ++ ((pcs T).drop j).flatten := by rw [← List.flatten_append, List.take_append_drop]
  rw [e, List.length_append] at h
  omega
section
variable {BC : Addr} {K : PySem.W.Frag} {DD : DEnds} {T : Mat} {w u v : List Int} {X : List Addr} {k : Nat} {x2 x3 x4 x5 x6 x7 x8 x9 x10 x11 x12 x13 x14 x15 x16 : Sl}
theorem r_a56 (hk : k < 80000000000) (fin : ∀ n : Nat, 1 ≤ n → n ≤ 6 → DD.nx ⟨X, [.no, .mst, x2, .dat (.int n), x4, x5, x6, x7, x8, x9, x10, x11, x12, x13, x14, x15, x16], k + 1⟩) : t_a56 DD ⟨X, [.no, .mst, x2, x3, x4, x5, x6, x7, x8, x9, x10, x11, x12, x13, x14, x15, x16], k⟩ := by
  refine ⟨rfl, 6, rfl, by decide, by decide, by show k < _; omega, fun z z0 z1 => ?_⟩
  obtain ⟨n, hn, n1, n6⟩ : ∃ n : Nat, 1 + z = (n : Int) ∧ 1 ≤ n ∧ n ≤ 6 := ⟨(1 + z).toNat, by omega, by omega, by omega⟩
  have f := fin n n1 n6
  rw [← hn] at f
  exact f
theorem r_b56 {n : Nat} (n1 : 1 ≤ n) (n6 : n ≤ 6) (hk : k < 80000000000) (fin : ∀ (T : Mat) (k' : Nat), Tab T → T.length = n → k ≤ k' → k' ≤ k + 40 → DD.nx ⟨X, [.no, .mst, x2, .dat (.int n), .dat (lM T), x5, x6, x7, x8, x9, x10, x11, x12, x13, x14, x15, x16], k'⟩) : t_b56 DD ⟨X, [.no, .mst, x2, .dat (.int n), x4, x5, x6, x7, x8, x9, x10, x11, x12, x13, x14, x15, x16], k⟩ :=
  ⟨rfl, _, rfl, by show 6 ≤ lim; decide, n, [2, 2, 2, 3, 4, 0], rfl, n1, n6, (fun z => nomatch z), by decide, by decide, by show k < _; omega, fun T k' ht hl a b => fin T k' ht hl a b⟩
theorem r_c56 (ht : Tab T) (fin : DD.nx ⟨X, [.no, .mst, x2, .dat (.int T.length), .dat (lM T), .dat (bnd BC T), .dat (.lst ((dueL T ((chL T.length).take 0)).map tI)), x7, x8, x9, x10, x11, x12, x13, x14, x15, x16], k⟩) : t_c56 BC DD ⟨X, [.no, .mst, x2, .dat (.int T.length), .dat (lM T), x5, x6, x7, x8, x9, x10, x11, x12, x13, x14, x15, x16], k⟩ :=
  ⟨_, rfl, T, rfl, ht, by show 0 ≤ lim; decide, fin⟩
theorem r_d56 (ht : Tab T) (fin : ∀ x7 x8, DD.nx ⟨X, [.no, .mst, x2, .dat (.int T.length), .dat (lM T), .dat (bnd BC T), .dat (.lst ((dueL T (chL T.length)).map tI)), x7, x8, x9, x10, x11, x12, x13, x14, x15, x16], k⟩) : t_d56 BC DD ⟨X, [.no, .mst, x2, .dat (.int T.length), .dat (lM T), .dat (bnd BC T), .dat (.lst ((dueL T ((chL T.length).take 0)).map tI)), x7, x8, x9, x10, x11, x12, x13, x14, x15, x16], k⟩ := by
  have hT := ht.hi
  refine ⟨_, rfl, T, rfl, ht, _, rfl, fun j s' => ∃ x7 x8 : Sl, s' = ⟨X, [.no, .mst, x2, .dat (.int T.length), .dat (lM T), .dat (bnd BC T), .dat (.lst ((dueL T ((chL T.length).take j)).map tI)), x7, x8, x9, x10, x11, x12, x13, x14, x15, x16], k⟩, ⟨_, _, rfl⟩, ?_, ?_⟩
  · rintro j d s' hd ⟨x7, x8, rfl⟩
    rw [← chL_map, List.getElem?_map] at hd
    obtain ⟨c, hc, rfl⟩ := Option.map_eq_some_iff.mp hd
    have cc := chL_chc hT (List.mem_of_getElem? hc)
    have l1 := due_len hT j
    refine ⟨_, rfl, _, rfl, T, c, rfl, ht, cc, ?_⟩
    refine ⟨_, rfl, _, rfl, T, c, rfl, ht, cc, _, rfl, _, rfl, shw_bl _, _, rfl, iteF ?_⟩
    refine ⟨_, rfl, _, rfl, by show 1 ≤ lim; decide, _, rfl, hngB T c, rfl, by split <;> omega, by split <;> omega, by split <;> first | exact l10k (show 1 * 1 ≤ 10000 by decide) | exact l10k (show 1 * 0 ≤ 10000 by decide), ?_⟩
    have st := due_step (T := T) hc
    by_cases q : hngB T c = true
    · rw [if_pos q] at *
      refine ⟨by rw [List.length_map]; exact l10k (by show _ + 1 ≤ _; omega), .dat (tI c), .dat (.bl (hngB T c)), ?_⟩
      rw [st, List.map_append]
      rfl
    · rw [if_neg q] at *
      refine ⟨by rw [List.length_map]; exact l10k (by show _ + 0 ≤ _; omega), .dat (tI c), .dat (.bl (hngB T c)), ?_⟩
      rw [st, List.append_nil]
      have e0 : ∀ L : List D, L ++ (List.replicate (Int.toNat 0) [tI c]).flatten = L := fun L => List.append_nil L
      rw [e0]
      rfl
  · rintro s' ⟨x7, x8, rfl⟩
    have e : (chD T.length).length = (chL T.length).length := by rw [← chL_map, List.length_map]
    rw [e, List.take_length]
    exact fin x7 x8
theorem r_e56 (ht : Tab T) (fin : DD.nx ⟨X, [.no, .mst, x2, .dat (.int T.length), .dat (lM T), .dat (bnd BC T), x6, x7, x8, .dat (tM (pcs T)), x10, x11, x12, x13, x14, x15, x16], k⟩) : t_e56 BC DD ⟨X, [.no, .mst, x2, .dat (.int T.length), .dat (lM T), .dat (bnd BC T), x6, x7, x8, x9, x10, x11, x12, x13, x14, x15, x16], k⟩ := ⟨_, rfl, T, rfl, ht, fin⟩
theorem r_f56 {ds : List (List Int)} (hl : ds.length ≤ 64) (hs : ∀ c ∈ ds, c.length ≤ 6) (fin : DD.nx ⟨X, [.no, .mst, x2, .dat (.int T.length), .dat (lM T), .dat (bnd BC T), .dat (.lst ((ds).map tI)), x7, x8, x9, .dat (.lst ((grt ds).map tI)), x11, x12, x13, x14, x15, x16], k⟩) : t_f56 DD ⟨X, [.no, .mst, x2, .dat (.int T.length), .dat (lM T), .dat (bnd BC T), .dat (.lst ((ds).map tI)), x7, x8, x9, x10, x11, x12, x13, x14, x15, x16], k⟩ := by
  have lm : (ds.map tI).length = ds.length := List.length_map ..
  refine ⟨_, rfl, _, rfl, by rw [lm]; exact l10k (by omega), fun p hp => ⟨fun j acc k' => k' = k ∧ acc = ((ds.take j).filter fun c => decide ((ds.filter fun d => !decide (c = d) && c.all fun x => decide (x ∈ d)) = [])).map tI, ⟨rfl, rfl⟩, ?_, ?_⟩⟩
  · rintro j d acc k' hd ⟨rfl, rfl⟩ _
    rw [List.getElem?_map] at hd
    obtain ⟨c, hc, rfl⟩ := Option.map_eq_some_iff.mp hd
    have cl := hs c (List.mem_of_getElem? hc)
    refine ⟨_, rfl, _, rfl, by rw [lm]; exact l10k (by omega), fun p2 hp2 => ⟨fun j2 acc2 k2 => k2 = k' ∧ acc2 = ((ds.take j2).filter fun d => !decide (c = d) && c.all fun x => decide (x ∈ d)).map tI, ⟨rfl, rfl⟩, ?_, ?_⟩⟩
    · rintro j2 d2 acc2 k2 hd2 ⟨rfl, rfl⟩ _
      rw [List.getElem?_map] at hd2
      obtain ⟨d, hd, rfl⟩ := Option.map_eq_some_iff.mp hd2
      have sp : (ds.take (j2 + 1)).filter (fun d => !decide (c = d) && c.all fun x => decide (x ∈ d)) = (ds.take j2).filter (fun d => !decide (c = d) && c.all fun x => decide (x ∈ d)) ++ if (!decide (c = d) && c.all fun x => decide (x ∈ d)) = true then [d] else [] := flt_stepL hd
      refine ⟨_, rfl, _, rfl, okE_tupI _, okE_tupI _, _, rfl, ?_⟩
      rw [eqv_tupI]
      by_cases e : c = d
      · rw [decide_eq_true e]
        refine iteF (iteF ⟨rfl, ?_⟩)
        rw [sp, if_neg (by rw [decide_eq_true e]; exact fun z => by cases z), List.append_nil]
      · rw [decide_eq_false e] at sp ⊢
        refine iteT ⟨_, rfl, _, rfl, c, d, rfl, by omega, _, rfl, ?_⟩
        by_cases q : (c.all fun x => decide (x ∈ d)) = true
        · rw [q]
          exact iteT ⟨_, rfl, rfl, by rw [sp, if_pos (by rw [q]; rfl), List.map_append]; rfl⟩
        · rw [Bool.eq_false_iff.mpr q]
          exact iteF ⟨rfl, by rw [sp, if_neg (by rw [Bool.eq_false_iff.mpr q]; decide), List.append_nil]⟩
    · rintro acc2 k2 ⟨rfl, rfl⟩ _
      rw [lm, List.take_length]
      have sp : (ds.take (j + 1)).filter (fun c => decide ((ds.filter fun d => !decide (c = d) && c.all fun x => decide (x ∈ d)) = [])) = (ds.take j).filter (fun c => decide ((ds.filter fun d => !decide (c = d) && c.all fun x => decide (x ∈ d)) = [])) ++ if decide ((ds.filter fun d => !decide (c = d) && c.all fun x => decide (x ∈ d)) = []) = true then [c] else [] := flt_stepL hc
      refine ⟨by decide, okE_tIs _, rfl, _, rfl, ?_⟩
      rw [eqv_nilS]
      by_cases q : decide ((ds.filter fun d => !decide (c = d) && c.all fun x => decide (x ∈ d)) = []) = true
      · rw [q]
        exact iteT ⟨_, rfl, rfl, by rw [sp, if_pos q, List.map_append]; rfl⟩
      · rw [Bool.eq_false_iff.mpr q]
        exact iteF ⟨rfl, by rw [sp, if_neg q, List.append_nil]⟩
  · rintro acc k' ⟨rfl, rfl⟩ _
    rw [lm, List.take_length]
    exact fin
theorem r_g56 (ht : Tab T) (fin : DD.nx ⟨X, [.no, .mst, x2, .dat (.int T.length), .dat (lM T), .dat (bnd BC T), x6, x7, x8, .dat (tM (pcs T)), .dat (.lst ((grt (dueL T (chL T.length))).map tI)), x11, x12, x13, x14, x15, x16], k⟩) : t_g56 DD ⟨X, [.no, .mst, x2, .dat (.int T.length), .dat (lM T), .dat (bnd BC T), x6, x7, x8, .dat (tM (pcs T)), .dat (.lst ((grt (dueL T (chL T.length))).map tI)), x11, x12, x13, x14, x15, x16], k⟩ := by
  have hT := ht.hi
  have lg : (grt (dueL T (chL T.length))).length ≤ 64 := by
    refine Nat.le_trans (List.length_filter_le _ _) (Nat.le_trans (List.length_filter_le _ _) (chL_len hT))
  obtain ⟨q1, q2, q3⟩ := sortT_ok _ (grt_ne ht)
  refine ⟨_, rfl, _, rfl, _, rfl, q1, q2, q3, by rw [List.length_map]; exact l10k (by omega), _, rfl, ?_⟩
  rw [sort_rows, great_is ht]
  exact ⟨tM (pcs T), rfl, pcs_shown hT, _, rfl, iteF fin⟩
theorem r_h56 (fin : DD.nx ⟨X, [.no, .mst, x2, .dat (.int T.length), .dat (lM T), .dat (bnd BC T), x6, x7, x8, x9, x10, .dat (lI []), x12, x13, x14, x15, x16], k⟩) : t_h56 DD ⟨X, [.no, .mst, x2, .dat (.int T.length), .dat (lM T), .dat (bnd BC T), x6, x7, x8, x9, x10, x11, x12, x13, x14, x15, x16], k⟩ := ⟨by show 0 ≤ lim; decide, fin⟩
theorem r_i56 (ht : Tab T) (fin : ∀ x12, DD.nx ⟨X, [.no, .mst, x2, .dat (.int T.length), .dat (lM T), .dat (bnd BC T), x6, x7, x8, .dat (tM (pcs T)), x10, .dat (lI (pcs T).flatten), x12, x13, x14, x15, x16], k⟩) : t_i56 DD ⟨X, [.no, .mst, x2, .dat (.int T.length), .dat (lM T), .dat (bnd BC T), x6, x7, x8, .dat (tM (pcs T)), x10, .dat (lI []), x12, x13, x14, x15, x16], k⟩ := by
  refine ⟨_, rfl, _, rfl, fun j s' => ∃ x12 : Sl, s' = ⟨X, [.no, .mst, x2, .dat (.int T.length), .dat (lM T), .dat (bnd BC T), x6, x7, x8, .dat (tM (pcs T)), x10, .dat (lI ((pcs T).take j).flatten), x12, x13, x14, x15, x16], k⟩, ⟨_, rfl⟩, ?_, ?_⟩
  · rintro j d s' hd ⟨x12, rfl⟩
    rw [List.getElem?_map] at hd
    obtain ⟨c, hc, rfl⟩ := Option.map_eq_some_iff.mp hd
    have l := flat_len ht (j + 1)
    have e : ((pcs T).take (j + 1)).flatten = ((pcs T).take j).flatten ++ c := by rw [List.take_succ, hc, List.flatten_append]; simp
    rw [e, List.length_append] at l
    refine ⟨_, rfl, _, rfl, by rw [List.length_map, List.length_map]; exact l10k (by omega), .dat (tI c), ?_⟩
    rw [e, ← List.map_append]
    rfl
  · rintro s' ⟨x12, rfl⟩
    rw [List.length_map, List.take_length]
    exact fin x12
theorem r_j56 (ht : Tab T) (fin : DD.nx ⟨X, [.no, .mst, x2, .dat (.int T.length), .dat (lM T), .dat (bnd BC T), x6, x7, x8, x9, x10, .dat (lI (pcs T).flatten), x12, x13, x14, x15, x16], k⟩) : t_j56 DD ⟨X, [.no, .mst, x2, .dat (.int T.length), .dat (lM T), .dat (bnd BC T), x6, x7, x8, x9, x10, .dat (lI (pcs T).flatten), x12, x13, x14, x15, x16], k⟩ := by
  have hT := ht.hi
  have l := flat_len ht (pcs T).length
  rw [List.take_length] at l
  obtain ⟨q1, q2, q3⟩ := sortI_ok (pcs T).flatten
  refine ⟨_, rfl, _, rfl, q1, q2, q3, by rw [List.length_map]; exact l10k (by omega), _, rfl, 1, _, rfl, rfl, ⟨by omega, by omega, by omega, by omega⟩, ?_⟩
  rw [sort_ints, sort_asc (pcs_flat ht) (ltrs_asc _), show ((T.length : Int) + 1 - 1).toNat = T.length by omega, ← ltrs_map]
  refine ⟨okE_lstI _, okE_lstI _, _, rfl, ?_⟩
  rw [eqv_lstI, decide_eq_true rfl]
  exact iteF fin
theorem r_k56 (ht : Tab T) (hk : k < 80000000000) (fin : ∀ (w : List Int) (k' : Nat), Wd T.length w → w.length ≤ 12 → k ≤ k' → k' ≤ k + 200 → DD.nx ⟨X, [.no, .mst, x2, .dat (.int T.length), .dat (lM T), .dat (bnd BC T), x6, x7, x8, x9, x10, x11, x12, .dat (lI w), x14, x15, x16], k'⟩) : t_k56 DD ⟨X, [.no, .mst, x2, .dat (.int T.length), .dat (lM T), .dat (bnd BC T), x6, x7, x8, x9, x10, x11, x12, x13, x14, x15, x16], k⟩ :=
  ⟨rfl, _, rfl, T.length, 12, rfl, by have := ht.lo; omega, ht.hi, by decide, by decide, by show k < _; omega, fun w k' hw hl a b => fin w k' hw (by omega) a b⟩
theorem r_l56 {P : List Int} {Ps : List (List Int)} (hw : w.length ≤ 12) (e : pcs T = P :: Ps) (fin : ∀ x16, DD.nx ⟨X, [.no, .mst, x2, .dat (.int T.length), .dat (lM T), .dat (bnd BC T), x6, x7, x8, .dat (tM (pcs T)), x10, x11, x12, .dat (lI w), .dat (lI (w.filter fun x => decide (x ∈ P))), x15, x16], k⟩) : t_l56 DD ⟨X, [.no, .mst, x2, .dat (.int T.length), .dat (lM T), .dat (bnd BC T), x6, x7, x8, .dat (tM (pcs T)), x10, x11, x12, .dat (lI w), x14, x15, x16], k⟩ := by
  refine ⟨_, rfl, _, rfl, by rw [List.length_map]; exact l10k (by omega), fun p hp => ⟨fun j acc k' => k' = k ∧ acc = ((w.take j).filter fun x => decide (x ∈ P)).map D.int, ⟨rfl, rfl⟩, ?_, ?_⟩⟩
  · rintro j d acc k' hd ⟨rfl, rfl⟩ _
    rw [List.getElem?_map] at hd
    obtain ⟨x, hx, rfl⟩ := Option.map_eq_some_iff.mp hd
    refine ⟨_, rfl, _, rfl, 0, tI P, rfl, by rw [e]; exact at0 _ _, rfl, _, rfl, flat_ints _, _, rfl, ?_⟩
    rw [inV_mem]
    by_cases q : x ∈ P
    · rw [decide_eq_true q]
      exact iteT ⟨_, rfl, rfl, by rw [filtI hx, if_pos (decide_eq_true q), List.map_append]; rfl⟩
    · rw [decide_eq_false q]
      exact iteF ⟨rfl, by rw [filtI hx, if_neg (by rw [decide_eq_false q]; decide), List.append_nil]⟩
  · rintro acc k' ⟨rfl, rfl⟩ _
    rw [List.length_map, List.take_length]
    exact fin _
theorem r_m56 {P : List Int} {Ps : List (List Int)} (hw : w.length ≤ 12) (e : pcs T = P :: Ps) (fin : ∀ x16, DD.nx ⟨X, [.no, .mst, x2, .dat (.int T.length), .dat (lM T), .dat (bnd BC T), x6, x7, x8, .dat (tM (pcs T)), x10, x11, x12, .dat (lI w), x14, .dat (lI (w.filter fun x => !decide (x ∈ P))), x16], k⟩) : t_m56 DD ⟨X, [.no, .mst, x2, .dat (.int T.length), .dat (lM T), .dat (bnd BC T), x6, x7, x8, .dat (tM (pcs T)), x10, x11, x12, .dat (lI w), x14, x15, x16], k⟩ := by
  refine ⟨_, rfl, _, rfl, by rw [List.length_map]; exact l10k (by omega), fun p hp => ⟨fun j acc k' => k' = k ∧ acc = ((w.take j).filter fun x => !decide (x ∈ P)).map D.int, ⟨rfl, rfl⟩, ?_, ?_⟩⟩
  · rintro j d acc k' hd ⟨rfl, rfl⟩ _
    rw [List.getElem?_map] at hd
    obtain ⟨x, hx, rfl⟩ := Option.map_eq_some_iff.mp hd
    refine ⟨_, rfl, _, rfl, 0, tI P, rfl, by rw [e]; exact at0 _ _, rfl, _, rfl, flat_ints _, _, rfl, ?_⟩
    rw [inV_mem]
    by_cases q : x ∈ P
    · rw [decide_eq_true q]
      exact iteF ⟨rfl, by rw [filtI hx, if_neg (by rw [decide_eq_true q]; decide), List.append_nil]⟩
    · rw [decide_eq_false q]
      exact iteT ⟨_, rfl, rfl, by rw [filtI hx, if_pos (by rw [decide_eq_false q]; decide), List.map_append]; rfl⟩
  · rintro acc k' ⟨rfl, rfl⟩ _
    rw [List.length_map, List.take_length]
    exact fin _
theorem r_n56 (ht : Tab T) (hw : Wd T.length w) (hu : Wd T.length u) (hv : Wd T.length v) (lw : w.length ≤ 12) (lu : u.length ≤ 12) (lv : v.length ≤ 12) (e1 : row T w = row T (u ++ v)) (e2 : row T (v ++ u) = row T (u ++ v))
    (fin : DD.nx ⟨X, [.no, .mst, x2, .dat (.int T.length), .dat (lM T), .dat (bnd BC T), x6, x7, x8, x9, x10, x11, x12, .dat (lI w), .dat (lI u), .dat (lI v), x16], k⟩) : t_n56 BC DD ⟨X, [.no, .mst, x2, .dat (.int T.length), .dat (lM T), .dat (bnd BC T), x6, x7, x8, x9, x10, x11, x12, .dat (lI w), .dat (lI u), .dat (lI v), x16], k⟩ := by
  have a1 : D.lst (u.map D.int ++ v.map D.int) = lI (u ++ v) := by rw [← List.map_append]
  have a2 : D.lst (v.map D.int ++ u.map D.int) = lI (v ++ u) := by rw [← List.map_append]
  have l1 : (u.map D.int).length + (v.map D.int).length ≤ lim := by rw [List.length_map, List.length_map]; exact l10k (by omega)
  have l2 : (v.map D.int).length + (u.map D.int).length ≤ lim := by rw [List.length_map, List.length_map]; exact l10k (by omega)
  refine ⟨_, rfl, _, rfl, _, rfl, _, rfl, l1, T, _, _, w, u ++ v, rfl, ht, .inl rfl, by omega, hw, .inl a1, by rw [List.length_append]; omega, wd_app hu hv, ?_⟩
  rw [decide_eq_true e1]
  refine ⟨_, rfl, iteF ?_⟩
  refine ⟨_, rfl, _, rfl, _, rfl, l2, _, rfl, _, rfl, l1, T, _, _, v ++ u, u ++ v, rfl, ht, .inl a2, by rw [List.length_append]; omega, wd_app hv hu, .inl a1, by rw [List.length_append]; omega, wd_app hu hv, ?_⟩
  rw [decide_eq_true e2]
  exact ⟨_, rfl, iteF fin⟩
theorem r_o56 {sl : List Sl} (hrt : DD.rt (.bl true) k) : t_o56 BC DD ⟨X, sl, k⟩ := by
  intro X'
  refine ⟨by show 3 ≤ lim; decide, by show 3 ≤ lim; decide, by show 3 ≤ lim; decide, by show 3 ≤ lim; decide, T56, rfl, tab56, T56, rfl, tab56, ?_⟩
  rw [pcs56]
  refine ⟨by show 2 ≤ lim; decide, by show 1 ≤ lim; decide, by show 2 ≤ lim; decide, okE_tM [[1, 3], [2]], okE_tM [[1, 3], [2]], ?_⟩
  show DD.rt (.bl (PyData.eqv (tM [[1, 3], [2]]).py (tM [[1, 3], [2]]).py)) k
  rw [eqv_tM, decide_eq_true rfl]
  exact hrt
end
theorem r_law56 (BC : Addr) (K : PySem.W.Frag) (DD : DEnds) (hrt : ∀ k, DD.rt (.bl true) k) : t_law56 BC K DD ⟨[], [.no, .mst, .no, .no, .no, .no, .no, .no, .no, .no, .no, .no, .no, .no, .no, .no, .no], 0⟩ := by
  refine ⟨_, rfl, by decide, by decide, fun i s' => ∃ (X : List Addr) (x2 x3 x4 x5 x6 x7 x8 x9 x10 x11 x12 x13 x14 x15 x16 : Sl) (k : Nat), s' = ⟨X, [.no, .mst, x2, x3, x4, x5, x6, x7, x8, x9, x10, x11, x12, x13, x14, x15, x16], k⟩ ∧ k ≤ 1000 * i, ⟨_, _, _, _, _, _, _, _, _, _, _, _, _, _, _, _, 0, rfl, by omega⟩, ?_, ?_⟩
  · rintro i d s' hd ⟨X, x2, x3, x4, x5, x6, x7, x8, x9, x10, x11, x12, x13, x14, x15, x16, k, rfl, hk⟩
    obtain ⟨hi, rfl⟩ := rngD_at hd
    have hi : i < 3 := hi
    refine r_a56 (k := k) (by omega) fun n n1 n6 => ?_
    refine r_b56 (k := k + 1) n1 n6 (by omega) fun T k1 ht hn a1 b1 => ?_
    subst hn
    have lo := ht.lo
    refine r_c56 ht (r_d56 ht fun y7 y8 => r_e56 ht (r_f56 (due_len' ht.hi) (due_small ht.hi) (r_g56 ht (r_h56 (r_i56 ht fun y12 => r_j56 ht ?_)))))
    refine r_k56 (k := k1) ht (by omega) fun w k2 hw hl a2 b2 => ?_
    cases e : pcs T with
    | nil =>
      have := (pcs_flat ht).length_eq
      rw [e, ltrs_len] at this
      have : 0 = T.length := this
      omega
    | cons P Ps =>
      have hP : P ∈ pcs T := by rw [e]; exact List.mem_cons_self
      obtain ⟨e1, e2⟩ := row_parts ht hw hP
      have w1 : Wd T.length (w.filter fun x => decide (x ∈ P)) := fun x hx => hw x (List.mem_filter.mp hx).1
      have w2 : Wd T.length (w.filter fun x => !decide (x ∈ P)) := fun x hx => hw x (List.mem_filter.mp hx).1
      have l1 : (w.filter fun x => decide (x ∈ P)).length ≤ 12 := Nat.le_trans (List.length_filter_le _ _) hl
      have l2 : (w.filter fun x => !decide (x ∈ P)).length ≤ 12 := Nat.le_trans (List.length_filter_le _ _) hl
      rw [← e]
      refine r_l56 hl e fun y16 => r_m56 hl e fun z16 => r_n56 ht hw w1 w2 hl l1 l2 e1 e2 ?_
      exact ⟨X, _, _, _, _, _, _, _, _, _, _, _, _, _, _, _, k2, rfl, by omega⟩
  · rintro s' ⟨X, x2, x3, x4, x5, x6, x7, x8, x9, x10, x11, x12, x13, x14, x15, x16, k, rfl, hk⟩
    exact r_o56 (hrt _)
end BW
namespace BW
open PySem L2 DL
theorem pd_globE {X : Cx} {c : C} {x : PySem.Str} {pos : Pos} {i : Int} (h : ∃ t, X.mg x = some (.int i t)) (hg : Gl X x := by rfl) (hd : (x == ("__debug__" : PySem.Str)) = false := by decide) : PE X (.Name x pos) (LE c (dC (.int i))) := by
  obtain ⟨t, h⟩ := h
  exact pd_globI h hg hd
abbrev s_is_whole : Stmt := top 13
theorem sc_is_whole : FnScope ["value"] ["value"] (defScope s_is_whole) := ⟨rfl, rfl, rfl, by decide +kernel, rfl, by decide +kernel, by decide +kernel⟩
theorem w_is_whole {P : Program} {w : World} {K : PySem.W.Frag} {mg : PySem.Str → Option Value} {base : Heap} (g_isinstance : mg "isinstance" = none) (g_int : mg "int" = none) (g_bool : mg "bool" = none) (qual : PySem.Str) (f : Addr) (cdv : Value) (A : Around) (outer : List Env) (s : Shared) (H : Hp) (E : XK) (M : Option Mc) (X0 : List Addr)
    (hr : Room 0 (A.deeper (PyProof.Rows.envOfC qual (defScope s_is_whole) s.heap.objs.size f cdv))) :
    PSs (cxOf CX0 P w K mg base ["value"] qual (defScope s_is_whole) f cdv A outer s H E).nox (defBody s_is_whole) (LS ⟨K, M, X0, H, []⟩ t_is_whole) :=
  (psd_one (psd_ret (pd_andV (pd_isi rfl g_isinstance g_int PyProof.Rows.boot_int (pd_var 0)) (pd_one (pd_notV (pd_isi rfl g_isinstance g_bool PyProof.Rows.boot_bool (pd_var 0)))))))
abbrev s_is_letter : Stmt := top 14
theorem sc_is_letter : FnScope ["value", "many"] ["value", "many"] (defScope s_is_letter) := ⟨rfl, rfl, rfl, by decide +kernel, rfl, by decide +kernel, by decide +kernel⟩
theorem w_is_letter {P : Program} {w : World} {K : PySem.W.Frag} {mg : PySem.Str → Option Value} {base : Heap} (c_is_whole : CalD P w K mg base 1 "is_whole" false sp_is_whole) (qual : PySem.Str) (f : Addr) (cdv : Value) (A : Around) (outer : List Env) (s : Shared) (H : Hp) (E : XK) (M : Option Mc) (X0 : List Addr)
    (hr : Room 1 (A.deeper (PyProof.Rows.envOfC qual (defScope s_is_letter) s.heap.objs.size f cdv))) :
    PSs (cxOf CX0 P w K mg base ["value", "many"] qual (defScope s_is_letter) f cdv A outer s H E).nox (defBody s_is_letter) (LS ⟨K, M, X0, H, []⟩ t_is_letter) :=
  (psd_one (psd_ret (pd_andV (pd_call rfl c_is_whole hr (by decide) (pad_cons (pd_var 0) pad_nil)) (pd_one (pd_chain op_le fit_le op_le fit_le pd_int (pd_var 0) (pd_var 1))))))
abbrev s_check_letters : Stmt := top 15
theorem sc_check_letters : FnScope ["many", "one", "other", "value"] ["many", "one", "other"] (defScope s_check_letters) := ⟨rfl, rfl, rfl, by decide +kernel, rfl, by decide +kernel, by decide +kernel⟩
theorem w_check_letters {P : Program} {w : World} {K : PySem.W.Frag} {mg : PySem.Str → Option Value} {base : Heap} (c_is_letter : CalD P w K mg base 2 "is_letter" false sp_is_letter) (qual : PySem.Str) (f : Addr) (cdv : Value) (A : Around) (outer : List Env) (s : Shared) (H : Hp) (E : XK) (M : Option Mc) (X0 : List Addr)
    (hr : Room 2 (A.deeper (PyProof.Rows.envOfC qual (defScope s_check_letters) s.heap.objs.size f cdv))) :
    PSs (cxOf CX0 P w K mg base ["many", "one", "other", "value"] qual (defScope s_check_letters) f cdv A outer s H E).nox (defBody s_check_letters) (LS ⟨K, M, X0, H, []⟩ t_check_letters) :=
  (psd_one (psd_for PassesOwn.never rfl (pid_tup rfl (pd_tup (pad_cons (pd_var 1) (pad_cons (pd_var 2) pad_nil)))) (pgd_name 3 sc_check_letters.nd) (psd_one (psd_if (ptd_not (pt_tru rfl (pd_call rfl c_is_letter hr (by decide) (pad_cons (pd_var 3) (pad_cons (pd_var 0) pad_nil))))) (psd_one psd_never) psd_nil))))
abbrev s_can_stand : Stmt := top 16
theorem sc_can_stand : FnScope ["rows", "one", "other", "item"] ["rows", "one", "other"] (defScope s_can_stand) := ⟨rfl, rfl, rfl, by decide +kernel, rfl, by decide +kernel, by decide +kernel⟩
theorem w_can_stand {P : Program} {w : World} {K : PySem.W.Frag} {mg : PySem.Str → Option Value} {base : Heap} (g_OWN_BOND : ∃ t, mg "OWN_BOND" = some (.int (1) t)) (g_WEIGHTS : KdAt P w K mg "WEIGHTS" kd_WEIGHTS) (c_is_whole : CalD P w K mg base 1 "is_whole" false sp_is_whole) (qual : PySem.Str) (f : Addr) (cdv : Value) (A : Around) (outer : List Env) (s : Shared) (H : Hp) (E : XK) (M : Option Mc) (X0 : List Addr)
    (hr : Room 1 (A.deeper (PyProof.Rows.envOfC qual (defScope s_can_stand) s.heap.objs.size f cdv))) :
    PSs (cxOf CX0 P w K mg base ["rows", "one", "other", "item"] qual (defScope s_can_stand) f cdv A outer s H E).nox (defBody s_can_stand) (LS ⟨K, M, X0, H, []⟩ t_can_stand) :=
  (psd_cons (psd_set 3 sc_can_stand.nd (pd_ix rfl (pd_ixN rfl 0 (pd_sub (pd_var 1) pd_int)) (pd_sub (pd_var 2) pd_int)))
  (psd_cons (psd_if (ptd_not (pt_tru rfl (pd_call rfl c_is_whole hr (by decide) (pad_cons (pd_var 3) pad_nil)))) (psd_one (psd_ret pd_bl)) psd_nil)
  (psd_cons (psd_if (ptd_cmp (OpR.or op_eq (op_eqD hr.units)) (fit_eq rfl) (pd_var 1) (pd_var 2)) (psd_one (psd_ret (pd_cmp (OpR.or op_eq (op_eqD hr.units)) (fit_eq rfl) (pd_var 3) (pd_globE g_OWN_BOND)))) psd_nil)
  (psd_cons (psd_if (ptd_cmp op_lt fit_lt (pd_var 1) (pd_var 2)) (psd_one (psd_ret (pd_inkd g_WEIGHTS (pd_var 3)))) psd_nil)
  (psd_one (psd_ret (pd_cmp (OpR.or op_eq (op_eqD hr.units)) (fit_eq rfl) (pd_var 3) (pd_ix rfl (pd_ixN rfl 0 (pd_sub (pd_var 2) pd_int)) (pd_sub (pd_var 1) pd_int)))))))))
abbrev s_check_shape : Stmt := top 17
theorem sc_check_shape : FnScope ["rows", "row"] ["rows"] (defScope s_check_shape) := ⟨rfl, rfl, rfl, by decide +kernel, rfl, by decide +kernel, by decide +kernel⟩
theorem w_check_shape {P : Program} {w : World} {K : PySem.W.Frag} {mg : PySem.Str → Option Value} {base : Heap} (g_isinstance : mg "isinstance" = none) (g_list : mg "list" = none) (g_tuple : mg "tuple" = none) (g_len : mg "len" = none) (g_MOST_LETTERS : ∃ t, mg "MOST_LETTERS" = some (.int (6) t)) (qual : PySem.Str) (f : Addr) (cdv : Value) (A : Around) (outer : List Env) (s : Shared) (H : Hp) (E : XK) (M : Option Mc) (X0 : List Addr)
    (hr : Room 0 (A.deeper (PyProof.Rows.envOfC qual (defScope s_check_shape) s.heap.objs.size f cdv))) :
    PSs (cxOf CX0 P w K mg base ["rows", "row"] qual (defScope s_check_shape) f cdv A outer s H E).nox (defBody s_check_shape) (LS ⟨K, M, X0, H, []⟩ t_check_shape) :=
  (psd_cons (psd_if (PW.pt (pwd_or (ptd_not (pt_tru rfl (pd_isi2 rfl g_isinstance g_list g_tuple PyProof.Rows.boot_list PyProof.Rows.boot_tuple (pd_var 0)))) (pwd_or1 (ptd_cmp (OpR.or op_eq (op_eqD hr.units)) (fit_eq rfl) (pd_lenN rfl g_len 0) pd_int)))) (psd_one psd_never) psd_nil)
  (psd_cons (psd_if (ptd_cmp op_gt fit_gt (pd_lenN rfl g_len 0) (pd_globE g_MOST_LETTERS)) (psd_one psd_never) psd_nil)
  (psd_one (psd_for PassesOwn.never rfl (pid_list rfl (pd_var 0)) (pgd_name 1 sc_check_shape.nd) (psd_one (psd_if (PW.pt (pwd_or (ptd_not (pt_tru rfl (pd_isi2 rfl g_isinstance g_list g_tuple PyProof.Rows.boot_list PyProof.Rows.boot_tuple (pd_var 1)))) (pwd_or1 (ptd_cmp (OpR.or op_ne (op_neD hr.units)) (fit_ne rfl) (pd_lenN rfl g_len 1) (pd_lenN rfl g_len 0))))) (psd_one psd_never) psd_nil))))))
abbrev s_check_table : Stmt := top 18
theorem sc_check_table : FnScope ["rows", "letters", "one", "other"] ["rows"] (defScope s_check_table) := ⟨rfl, rfl, rfl, by decide +kernel, rfl, by decide +kernel, by decide +kernel⟩
theorem w_check_table {P : Program} {w : World} {K : PySem.W.Frag} {mg : PySem.Str → Option Value} {base : Heap} (g_list : mg "list" = none) (g_range : mg "range" = none) (g_len : mg "len" = none) (c_check_shape : CalD P w K mg base 1 "check_shape" false sp_check_shape) (c_can_stand : CalD P w K mg base 2 "can_stand" false sp_can_stand) (qual : PySem.Str) (f : Addr) (cdv : Value) (A : Around) (outer : List Env) (s : Shared) (H : Hp) (E : XK) (M : Option Mc) (X0 : List Addr)
    (hr : Room 2 (A.deeper (PyProof.Rows.envOfC qual (defScope s_check_table) s.heap.objs.size f cdv))) :
    PSs (cxOf CX0 P w K mg base ["rows", "letters", "one", "other"] qual (defScope s_check_table) f cdv A outer s H E).nox (defBody s_check_table) (LS ⟨K, M, X0, H, []⟩ t_check_table) :=
  (psd_cons (psd_expr (pd_call rfl c_check_shape hr (by decide) (pad_cons (pd_var 0) pad_nil)))
  (psd_cons (psd_set 1 sc_check_table.nd (pd_fr (pdf_lr2 rfl g_list g_range pd_int (pd_add rfl (pd_lenN rfl g_len 0) pd_int))))
  (psd_one (psd_for PassesOwn.never rfl (pid_list rfl (pd_var 1)) (pgd_name 2 sc_check_table.nd) (psd_one (psd_for PassesOwn.never rfl (pid_list rfl (pd_var 1)) (pgd_name 3 sc_check_table.nd) (psd_one (psd_if (ptd_not (pt_tru rfl (pd_call rfl c_can_stand hr (by decide) (pad_cons (pd_var 0) (pad_cons (pd_var 2) (pad_cons (pd_var 3) pad_nil)))))) (psd_one psd_never) psd_nil))))))))
abbrev s_weight_of : Stmt := top 19
theorem sc_weight_of : FnScope ["table", "one", "other", "upward", "downward"] ["table", "one", "other"] (defScope s_weight_of) := ⟨rfl, rfl, rfl, by decide +kernel, rfl, by decide +kernel, by decide +kernel⟩
theorem w_weight_of {P : Program} {w : World} {K : PySem.W.Frag} {mg : PySem.Str → Option Value} {base : Heap} (g_OWN_WEIGHT : ∃ t, mg "OWN_WEIGHT" = some (.int (-2) t)) (g_WEIGHTS : KdAt P w K mg "WEIGHTS" kd_WEIGHTS) (qual : PySem.Str) (f : Addr) (cdv : Value) (A : Around) (outer : List Env) (s : Shared) (H : Hp) (E : XK) (M : Option Mc) (X0 : List Addr)
    (hr : Room 0 (A.deeper (PyProof.Rows.envOfC qual (defScope s_weight_of) s.heap.objs.size f cdv))) :
    PSs (cxOf CX0 P w K mg base ["table", "one", "other", "upward", "downward"] qual (defScope s_weight_of) f cdv A outer s H E).nox (defBody s_weight_of) (LS ⟨K, M, X0, H, []⟩ t_weight_of) :=
  (psd_cons (psd_if (ptd_cmp (OpR.or op_eq (op_eqD hr.units)) (fit_eq rfl) (pd_var 1) (pd_var 2)) (psd_one (psd_ret (pd_globE g_OWN_WEIGHT))) psd_nil)
  (psd_cons (psd_asg (pd_kd rfl g_WEIGHTS (pd_ix rfl (pd_ixN rfl 0 (pd_sub (pd_var 1) pd_int)) (pd_sub (pd_var 2) pd_int))) (pgd_tup rfl rfl (pgds_cons (pgd_name 3 sc_weight_of.nd) (pgds_cons (pgd_name 4 sc_weight_of.nd) pgds_nil))))
  (psd_one (psd_ret (pd_if (ptd_cmp op_lt fit_lt (pd_var 1) (pd_var 2)) (pd_var 3) (pd_var 4))))))
abbrev s_weights_from : Stmt := top 20
theorem sc_weights_from : FnScope ["table", "one", "other"] ["table", "one"] (defScope s_weights_from) := ⟨rfl, rfl, rfl, by decide +kernel, rfl, by decide +kernel, by decide +kernel⟩
theorem w_weights_from {P : Program} {w : World} {K : PySem.W.Frag} {mg : PySem.Str → Option Value} {base : Heap} (g_tuple : mg "tuple" = none) (g_range : mg "range" = none) (g_len : mg "len" = none) (c_weight_of : CalD P w K mg base 1 "weight_of" false sp_weight_of) (qual : PySem.Str) (f : Addr) (cdv : Value) (A : Around) (outer : List Env) (s : Shared) (H : Hp) (E : XK) (M : Option Mc) (X0 : List Addr)
    (hr : Room 1 (A.deeper (PyProof.Rows.envOfC qual (defScope s_weights_from) s.heap.objs.size f cdv))) :
    PSs (cxOf CX0 P w K mg base ["table", "one", "other"] qual (defScope s_weights_from) f cdv A outer s H E).nox (defBody s_weights_from) (LS ⟨K, M, X0, H, []⟩ t_weights_from) :=
  (psd_one (psd_ret (pd_tupOf rfl g_tuple (pd_fr (pdf_lc (own := [("other", 2)]) rfl sc_weights_from.nd (pid_r2 g_range pd_int (pd_add rfl (pd_lenN rfl g_len 0) pd_int)) (blkOk_by (N := ["table", "one", "other"]) (sc := defScope s_weights_from) (by decide +kernel)) (fun _ _ _ _ _ => (pgd_name 2 sc_weights_from.nd)) (fun _ _ _ _ _ => pts_none) (fun _ _ _ _ _ => (pd_call rfl c_weight_of hr (by decide) (pad_cons (pd_var 0) (pad_cons (pd_var 1) (pad_cons (pd_var 2) pad_nil))))))))))
abbrev s_as_word : Stmt := top 23
theorem sc_as_word : FnScope ["value", "many", "place", "item"] ["value", "many"] (defScope s_as_word) := ⟨rfl, rfl, rfl, by decide +kernel, rfl, by decide +kernel, by decide +kernel⟩
theorem w_as_word {P : Program} {w : World} {K : PySem.W.Frag} {mg : PySem.Str → Option Value} {base : Heap} (g_isinstance : mg "isinstance" = none) (g_list : mg "list" = none) (g_tuple : mg "tuple" = none) (g_len : mg "len" = none) (g_MOST_WORD : ∃ t, mg "MOST_WORD" = some (.int (60) t)) (g_enumerate : mg "enumerate" = none) (c_is_letter : CalD P w K mg base 2 "is_letter" false sp_is_letter) (qual : PySem.Str) (f : Addr) (cdv : Value) (A : Around) (outer : List Env) (s : Shared) (H : Hp) (E : XK) (M : Option Mc) (X0 : List Addr)
    (hr : Room 2 (A.deeper (PyProof.Rows.envOfC qual (defScope s_as_word) s.heap.objs.size f cdv))) :
    PSs (cxOf CX0 P w K mg base ["value", "many", "place", "item"] qual (defScope s_as_word) f cdv A outer s H E).nox (defBody s_as_word) (LS ⟨K, M, X0, H, []⟩ t_as_word) :=
  (psd_cons (psd_if (ptd_not (pt_tru rfl (pd_isi2 rfl g_isinstance g_list g_tuple PyProof.Rows.boot_list PyProof.Rows.boot_tuple (pd_var 0)))) (psd_one psd_never) psd_nil)
  (psd_cons (psd_if (ptd_cmp op_gt fit_gt (pd_lenN rfl g_len 0) (pd_globE g_MOST_WORD)) (psd_one psd_never) psd_nil)
  (psd_cons (psd_for PassesOwn.never rfl (pid_enumS rfl g_enumerate (pd_var 0)) (pgd_tup rfl rfl (pgds_cons (pgd_name 2 sc_as_word.nd) (pgds_cons (pgd_name 3 sc_as_word.nd) pgds_nil))) (psd_one (psd_if (ptd_not (pt_tru rfl (pd_call rfl c_is_letter hr (by decide) (pad_cons (pd_var 3) (pad_cons (pd_var 1) pad_nil))))) (psd_one psd_never) psd_nil)))
  (psd_one (psd_ret (pd_tupN rfl g_tuple 0))))))
abbrev s_first_row : Stmt := top 26
theorem sc_first_row : FnScope ["bonds"] ["bonds"] (defScope s_first_row) := ⟨rfl, rfl, rfl, by decide +kernel, rfl, by decide +kernel, by decide +kernel⟩
theorem w_first_row {P : Program} {w : World} {K : PySem.W.Frag} {mg : PySem.Str → Option Value} {base : Heap} {BC : Addr} (g_len : mg "len" = none) (c_len_Bonds : LenD P w K mg base 1 BC (sp_len_Bonds BC)) (qual : PySem.Str) (f : Addr) (cdv : Value) (A : Around) (outer : List Env) (s : Shared) (H : Hp) (E : XK) (M : Option Mc) (X0 : List Addr)
    (hr : Room 2 (A.deeper (PyProof.Rows.envOfC qual (defScope s_first_row) s.heap.objs.size f cdv))) :
    PSs (cxOf CX0 P w K mg base ["bonds"] qual (defScope s_first_row) f cdv A outer s H E).nox (defBody s_first_row) (LS ⟨K, M, X0, H, []⟩ (t_first_row BC)) :=
  (psd_one (psd_ret (pd_mul rfl (pd_tup (pad_cons pd_int pad_nil)) (pd_lenO rfl g_len c_len_Bonds hr (by decide) (pd_var 0)))))
abbrev s_pressed : Stmt := top 27
theorem sc_pressed : FnScope ["bonds", "row", "letter", "number", "weights", "old", "weight"] ["bonds", "row", "letter"] (defScope s_pressed) := ⟨rfl, rfl, rfl, by decide +kernel, rfl, by decide +kernel, by decide +kernel⟩
theorem w_pressed {P : Program} {w : World} {K : PySem.W.Frag} {mg : PySem.Str → Option Value} {base : Heap} {BC : Addr} (g_tuple : mg "tuple" = none) (g_zip : mg "zip" = none) (g_Bonds : Cls K BC) (g_Bonds_weights : NoAttr K BC "weights") (qual : PySem.Str) (f : Addr) (cdv : Value) (A : Around) (outer : List Env) (s : Shared) (H : Hp) (E : XK) (M : Option Mc) (X0 : List Addr)
    (hr : Room 0 (A.deeper (PyProof.Rows.envOfC qual (defScope s_pressed) s.heap.objs.size f cdv))) :
    PSs (cxOf CX0 P w K mg base ["bonds", "row", "letter", "number", "weights", "old", "weight"] qual (defScope s_pressed) f cdv A outer s H E).nox (defBody s_pressed) (LS ⟨K, M, X0, H, []⟩ (t_pressed BC)) :=
  (psd_cons (psd_set 3 sc_pressed.nd (pd_ixN rfl 1 (pd_sub (pd_var 2) pd_int)))
  (psd_cons (psd_set 4 sc_pressed.nd (pd_ix rfl (pd_fld rfl g_Bonds g_Bonds_weights (pd_var 0)) (pd_sub (pd_var 2) pd_int)))
  (psd_one (psd_ret (pd_tupOf rfl g_tuple (pd_fr (pdf_lc (own := [("old", 5), ("weight", 6)]) rfl sc_pressed.nd (pid_zip rfl g_zip (pd_var 1) (pd_var 4)) (blkOk_by (N := ["bonds", "row", "letter", "number", "weights", "old", "weight"]) (sc := defScope s_pressed) (by decide +kernel)) (fun _ _ _ _ _ => (pgd_tup rfl rfl (pgds_cons (pgd_name 5 sc_pressed.nd) (pgds_cons (pgd_name 6 sc_pressed.nd) pgds_nil)))) (fun _ _ _ _ _ => pts_none) (fun _ _ _ _ _ => (pd_add rfl (pd_var 5) (pd_mul rfl (pd_var 6) (pd_var 3)))))))))))
abbrev s_row_behind : Stmt := top 28
theorem sc_row_behind : FnScope ["bonds", "letters", "row", "letter"] ["bonds", "letters"] (defScope s_row_behind) := ⟨rfl, rfl, rfl, by decide +kernel, rfl, by decide +kernel, by decide +kernel⟩
theorem w_row_behind {P : Program} {w : World} {K : PySem.W.Frag} {mg : PySem.Str → Option Value} {base : Heap} {BC : Addr} (c_first_row : CalD P w K mg base 3 "first_row" false (sp_first_row BC)) (c_pressed : CalD P w K mg base 1 "pressed" false (sp_pressed BC)) (qual : PySem.Str) (f : Addr) (cdv : Value) (A : Around) (outer : List Env) (s : Shared) (H : Hp) (E : XK) (M : Option Mc) (X0 : List Addr)
    (hr : Room 3 (A.deeper (PyProof.Rows.envOfC qual (defScope s_row_behind) s.heap.objs.size f cdv))) :
    PSs (cxOf CX0 P w K mg base ["bonds", "letters", "row", "letter"] qual (defScope s_row_behind) f cdv A outer s H E).nox (defBody s_row_behind) (LS ⟨K, M, X0, H, []⟩ (t_row_behind BC)) :=
  (psd_cons (psd_set 2 sc_row_behind.nd (pd_call rfl c_first_row hr (by decide) (pad_cons (pd_var 0) pad_nil)))
  (psd_cons (psd_for PassesOwn.never rfl (pid_seq rfl (pd_var 1)) (pgd_name 3 sc_row_behind.nd) (psd_one (psd_set 2 sc_row_behind.nd (pd_call rfl c_pressed hr (by decide) (pad_cons (pd_var 0) (pad_cons (pd_var 2) (pad_cons (pd_var 3) pad_nil)))))))
  (psd_one (psd_ret (pd_var 2)))))
abbrev s_row_of : Stmt := top 29
theorem sc_row_of : FnScope ["bonds", "word"] ["bonds", "word"] (defScope s_row_of) := ⟨rfl, rfl, rfl, by decide +kernel, rfl, by decide +kernel, by decide +kernel⟩
theorem w_row_of {P : Program} {w : World} {K : PySem.W.Frag} {mg : PySem.Str → Option Value} {base : Heap} {BC : Addr} (g_len : mg "len" = none) (c_row_behind : CalD P w K mg base 4 "row_behind" false (sp_row_behind BC)) (c_as_word : CalD P w K mg base 3 "as_word" false sp_as_word) (c_len_Bonds : LenD P w K mg base 1 BC (sp_len_Bonds BC)) (qual : PySem.Str) (f : Addr) (cdv : Value) (A : Around) (outer : List Env) (s : Shared) (H : Hp) (E : XK) (M : Option Mc) (X0 : List Addr)
    (hr : Room 4 (A.deeper (PyProof.Rows.envOfC qual (defScope s_row_of) s.heap.objs.size f cdv))) :
    PSs (cxOf CX0 P w K mg base ["bonds", "word"] qual (defScope s_row_of) f cdv A outer s H E).nox (defBody s_row_of) (LS ⟨K, M, X0, H, []⟩ (t_row_of BC)) :=
  (psd_one (psd_ret (pd_call rfl c_row_behind hr (by decide) (pad_cons (pd_var 0) (pad_cons (pd_call rfl c_as_word hr (by decide) (pad_cons (pd_var 1) (pad_cons (pd_lenO rfl g_len c_len_Bonds hr (by decide) (pd_var 0)) pad_nil))) pad_nil)))))
abbrev s_alike : Stmt := top 30
theorem sc_alike : FnScope ["bonds", "one", "other"] ["bonds", "one", "other"] (defScope s_alike) := ⟨rfl, rfl, rfl, by decide +kernel, rfl, by decide +kernel, by decide +kernel⟩
theorem w_alike {P : Program} {w : World} {K : PySem.W.Frag} {mg : PySem.Str → Option Value} {base : Heap} {BC : Addr} (c_row_of : CalD P w K mg base 5 "row_of" false (sp_row_of BC)) (qual : PySem.Str) (f : Addr) (cdv : Value) (A : Around) (outer : List Env) (s : Shared) (H : Hp) (E : XK) (M : Option Mc) (X0 : List Addr)
    (hr : Room 5 (A.deeper (PyProof.Rows.envOfC qual (defScope s_alike) s.heap.objs.size f cdv))) :
    PSs (cxOf CX0 P w K mg base ["bonds", "one", "other"] qual (defScope s_alike) f cdv A outer s H E).nox (defBody s_alike) (LS ⟨K, M, X0, H, []⟩ (t_alike BC)) :=
  (psd_one (psd_ret (pd_cmp (OpR.or op_eq (op_eqD hr.units)) (fit_eq rfl) (pd_call rfl c_row_of hr (by decide) (pad_cons (pd_var 0) (pad_cons (pd_var 1) pad_nil))) (pd_call rfl c_row_of hr (by decide) (pad_cons (pd_var 0) (pad_cons (pd_var 2) pad_nil))))))
abbrev s_is_choice : Stmt := top 32
theorem sc_is_choice : FnScope ["bonds", "value", "one", "other", "item"] ["bonds", "value"] (defScope s_is_choice) := ⟨rfl, rfl, rfl, by decide +kernel, rfl, by decide +kernel, by decide +kernel⟩
theorem w_is_choice {P : Program} {w : World} {K : PySem.W.Frag} {mg : PySem.Str → Option Value} {base : Heap} {BC : Addr} (g_isinstance : mg "isinstance" = none) (g_tuple : mg "tuple" = none) (g_all : mg "all" = none) (g_len : mg "len" = none) (g_zip : mg "zip" = none) (c_is_letter : CalD P w K mg base 2 "is_letter" false sp_is_letter) (c_len_Bonds : LenD P w K mg base 1 BC (sp_len_Bonds BC)) (qual : PySem.Str) (f : Addr) (cdv : Value) (A : Around) (outer : List Env) (s : Shared) (H : Hp) (E : XK) (M : Option Mc) (X0 : List Addr)
    (hr : Room 2 (A.deeper (PyProof.Rows.envOfC qual (defScope s_is_choice) s.heap.objs.size f cdv))) :
    PSs (cxOf CX0 P w K mg base ["bonds", "value", "one", "other", "item"] qual (defScope s_is_choice) f cdv A outer s H E).nox (defBody s_is_choice) (LS ⟨K, M, X0, H, []⟩ (t_is_choice BC)) :=
  (psd_cons (psd_if (PW.pt (pwd_or (ptd_not (pt_tru rfl (pd_isi rfl g_isinstance g_tuple PyProof.Rows.boot_tuple (pd_var 1)))) (pwd_or1 (ptd_not (pt_tru rfl (pd_all rfl g_all rfl (pd_fr (pdf_lc (own := [("item", 4)]) rfl sc_is_choice.nd (pid_tup rfl (pd_var 1)) (blkOk_by (N := ["bonds", "value", "one", "other", "item"]) (sc := defScope s_is_choice) (by decide +kernel)) (fun _ _ _ _ _ => (pgd_name 4 sc_is_choice.nd)) (fun _ _ _ _ _ => pts_none) (fun _ _ _ _ _ => (pd_call rfl c_is_letter hr (by decide) (pad_cons (pd_var 4) (pad_cons (pd_lenO rfl g_len c_len_Bonds hr (by decide) (pd_var 0)) pad_nil)))))))))))) (psd_one (psd_ret pd_bl)) psd_nil)
  (psd_one (psd_ret (pd_all rfl g_all rfl (pd_fr (pdf_lc (own := [("one", 2), ("other", 3)]) rfl sc_is_choice.nd (pid_zip rfl g_zip (pd_var 1) (pd_slice rfl (pd_var 1) (pod_some pd_int) pod_none)) (blkOk_by (N := ["bonds", "value", "one", "other", "item"]) (sc := defScope s_is_choice) (by decide +kernel)) (fun _ _ _ _ _ => (pgd_tup rfl rfl (pgds_cons (pgd_name 2 sc_is_choice.nd) (pgds_cons (pgd_name 3 sc_is_choice.nd) pgds_nil)))) (fun _ _ _ _ _ => pts_none) (fun _ _ _ _ _ => (pd_cmp op_lt fit_lt (pd_var 2) (pd_var 3)))))))))
abbrev s_check_choice : Stmt := top 33
theorem sc_check_choice : FnScope ["bonds", "value"] ["bonds", "value"] (defScope s_check_choice) := ⟨rfl, rfl, rfl, by decide +kernel, rfl, by decide +kernel, by decide +kernel⟩
theorem w_check_choice {P : Program} {w : World} {K : PySem.W.Frag} {mg : PySem.Str → Option Value} {base : Heap} {BC : Addr} (c_is_choice : CalD P w K mg base 3 "is_choice" false (sp_is_choice BC)) (qual : PySem.Str) (f : Addr) (cdv : Value) (A : Around) (outer : List Env) (s : Shared) (H : Hp) (E : XK) (M : Option Mc) (X0 : List Addr)
    (hr : Room 3 (A.deeper (PyProof.Rows.envOfC qual (defScope s_check_choice) s.heap.objs.size f cdv))) :
    PSs (cxOf CX0 P w K mg base ["bonds", "value"] qual (defScope s_check_choice) f cdv A outer s H E).nox (defBody s_check_choice) (LS ⟨K, M, X0, H, []⟩ (t_check_choice BC)) :=
  (psd_one (psd_if (ptd_not (pt_tru rfl (pd_call rfl c_is_choice hr (by decide) (pad_cons (pd_var 0) (pad_cons (pd_var 1) pad_nil))))) (psd_one psd_never) psd_nil))
abbrev s_all_letters : Stmt := top 37
theorem sc_all_letters : FnScope ["bonds"] ["bonds"] (defScope s_all_letters) := ⟨rfl, rfl, rfl, by decide +kernel, rfl, by decide +kernel, by decide +kernel⟩
theorem w_all_letters {P : Program} {w : World} {K : PySem.W.Frag} {mg : PySem.Str → Option Value} {base : Heap} {BC : Addr} (g_tuple : mg "tuple" = none) (g_range : mg "range" = none) (g_len : mg "len" = none) (c_len_Bonds : LenD P w K mg base 1 BC (sp_len_Bonds BC)) (qual : PySem.Str) (f : Addr) (cdv : Value) (A : Around) (outer : List Env) (s : Shared) (H : Hp) (E : XK) (M : Option Mc) (X0 : List Addr)
    (hr : Room 2 (A.deeper (PyProof.Rows.envOfC qual (defScope s_all_letters) s.heap.objs.size f cdv))) :
    PSs (cxOf CX0 P w K mg base ["bonds"] qual (defScope s_all_letters) f cdv A outer s H E).nox (defBody s_all_letters) (LS ⟨K, M, X0, H, []⟩ (t_all_letters BC)) :=
  (psd_one (psd_ret (pd_tupRg2 rfl g_range g_tuple pd_int (pd_add rfl (pd_lenO rfl g_len c_len_Bonds hr (by decide) (pd_var 0)) pd_int))))
abbrev s_piece_around : Stmt := top 38
theorem sc_piece_around : FnScope ["bonds", "choice", "letter", "piece", "fresh", "others", "other", "one"] ["bonds", "choice", "letter"] (defScope s_piece_around) := ⟨rfl, rfl, rfl, by decide +kernel, rfl, by decide +kernel, by decide +kernel⟩
theorem w_piece_around {P : Program} {w : World} {K : PySem.W.Frag} {mg : PySem.Str → Option Value} {base : Heap} {BC : Addr} (g_any : mg "any" = none) (g_LOOSE : ∃ t, mg "LOOSE" = some (.int (2) t)) (g_tuple : mg "tuple" = none) (g_sorted : mg "sorted" = none) (g_Bonds : Cls K BC) (c_bond : MetD P w K mg base 4 BC "bond" (sp_bond BC)) (qual : PySem.Str) (f : Addr) (cdv : Value) (A : Around) (outer : List Env) (s : Shared) (H : Hp) (E : XK) (M : Option Mc) (X0 : List Addr)
    (hr : Room 4 (A.deeper (PyProof.Rows.envOfC qual (defScope s_piece_around) s.heap.objs.size f cdv))) :
    PSs (cxOf CX0 P w K mg base ["bonds", "choice", "letter", "piece", "fresh", "others", "other", "one"] qual (defScope s_piece_around) f cdv A outer s H E).nox (defBody s_piece_around) (LS ⟨K, M, X0, H, []⟩ (t_piece_around BC)) :=
  (psd_cons (psd_set 3 sc_piece_around.nd (pd_fr (pdf_lst pad_nil)))
  (psd_cons (psd_set 4 sc_piece_around.nd (pd_fr (pdf_lst (pad_cons (pd_var 2) pad_nil))))
  (psd_cons (psd_while PassesOwn.never (pt_tru rfl (pd_var 4)) (psd_cons (psd_set 3 sc_piece_around.nd (pd_add rfl (pd_var 3) (pd_var 4)))
  (psd_cons (psd_setLc 5 (own := [("other", 6)]) rfl sc_piece_around.nd (pid_tup rfl (pd_var 1)) (blkOk_by (N := ["bonds", "choice", "letter", "piece", "fresh", "others", "other", "one"]) (sc := defScope s_piece_around) (by decide +kernel)) (fun _ _ _ _ _ => (pgd_name 6 sc_piece_around.nd)) (fun _ _ _ _ _ => (ptsd_one (ptd_cmp op_notIn_seq (fit_nin rfl) (pd_var 6) (pd_var 3)))) (fun _ _ _ _ _ => (pd_var 6)))
  (psd_one (psd_setLc 4 (own := [("other", 6)]) rfl sc_piece_around.nd (pid_list rfl (pd_var 5)) (blkOk_by (N := ["bonds", "choice", "letter", "piece", "fresh", "others", "other", "one"]) (sc := defScope s_piece_around) (by decide +kernel)) (fun _ _ _ _ _ => (pgd_name 6 sc_piece_around.nd)) (fun _ _ _ _ _ => (ptsd_one (pt_tru rfl (pd_any rfl g_any rfl (pd_fr (pdf_lc (own := [("one", 7)]) rfl sc_piece_around.nd (pid_list rfl (pd_var 3)) (blkOk_by (N := ["bonds", "choice", "letter", "piece", "fresh", "others", "other", "one"]) (sc := { kind := .function, names := [(".0", .local), ("other", .cell), ("any", .globalImplicit), ("bonds", .cell), ("piece", .cell)], isGenerator := false, isCoroutine := false }) (by decide +kernel)) (fun _ _ _ _ _ => (pgd_name 7 sc_piece_around.nd)) (fun _ _ _ _ _ => pts_none) (fun _ _ _ _ _ => (pd_cmp (OpR.or op_ne (op_neD hr.units)) (fit_ne rfl) (pd_meth rfl g_Bonds c_bond hr (by decide) (pd_var 0) (pad_cons (pd_var 6) (pad_cons (pd_var 7) pad_nil))) (pd_globE g_LOOSE))))))))) (fun _ _ _ _ _ => (pd_var 6)))))))
  (psd_one (psd_ret (pd_tupOf rfl g_tuple (pd_fr (pdf_sorted rfl hr g_sorted (pd_var 3)))))))))
abbrev s_hangs_together : Stmt := top 39
theorem sc_hangs_together : FnScope ["bonds", "choice"] ["bonds", "choice"] (defScope s_hangs_together) := ⟨rfl, rfl, rfl, by decide +kernel, rfl, by decide +kernel, by decide +kernel⟩
theorem w_hangs_together {P : Program} {w : World} {K : PySem.W.Frag} {mg : PySem.Str → Option Value} {base : Heap} {BC : Addr} (g_len : mg "len" = none) (c_check_choice : CalD P w K mg base 4 "check_choice" false (sp_check_choice BC)) (c_piece_around : CalD P w K mg base 5 "piece_around" false (sp_piece_around BC)) (qual : PySem.Str) (f : Addr) (cdv : Value) (A : Around) (outer : List Env) (s : Shared) (H : Hp) (E : XK) (M : Option Mc) (X0 : List Addr)
    (hr : Room 5 (A.deeper (PyProof.Rows.envOfC qual (defScope s_hangs_together) s.heap.objs.size f cdv))) :
    PSs (cxOf CX0 P w K mg base ["bonds", "choice"] qual (defScope s_hangs_together) f cdv A outer s H E).nox (defBody s_hangs_together) (LS ⟨K, M, X0, H, []⟩ (t_hangs_together BC)) :=
  (psd_cons (psd_expr (pd_call rfl c_check_choice hr (by decide) (pad_cons (pd_var 0) (pad_cons (pd_var 1) pad_nil))))
  (psd_one (psd_ret (pd_andV (pd_cmp op_gt fit_gt (pd_lenN rfl g_len 1) pd_int) (pd_one (pd_cmp (OpR.or op_eq (op_eqD hr.units)) (fit_eq rfl) (pd_call rfl c_piece_around hr (by decide) (pad_cons (pd_var 0) (pad_cons (pd_var 1) (pad_cons (pd_ixN rfl 1 pd_int) pad_nil)))) (pd_var 1)))))))
abbrev s_pieces : Stmt := top 40
theorem sc_pieces : FnScope ["bonds", "letters", "letter"] ["bonds"] (defScope s_pieces) := ⟨rfl, rfl, rfl, by decide +kernel, rfl, by decide +kernel, by decide +kernel⟩
theorem w_pieces {P : Program} {w : World} {K : PySem.W.Frag} {mg : PySem.Str → Option Value} {base : Heap} {BC : Addr} (g_tuple : mg "tuple" = none) (g_sorted : mg "sorted" = none) (c_all_letters : CalD P w K mg base 3 "all_letters" false (sp_all_letters BC)) (c_piece_around : CalD P w K mg base 5 "piece_around" false (sp_piece_around BC)) (qual : PySem.Str) (f : Addr) (cdv : Value) (A : Around) (outer : List Env) (s : Shared) (H : Hp) (E : XK) (M : Option Mc) (X0 : List Addr)
    (hr : Room 5 (A.deeper (PyProof.Rows.envOfC qual (defScope s_pieces) s.heap.objs.size f cdv))) :
    PSs (cxOf CX0 P w K mg base ["bonds", "letters", "letter"] qual (defScope s_pieces) f cdv A outer s H E).nox (defBody s_pieces) (LS ⟨K, M, X0, H, []⟩ (t_pieces BC)) :=
  (psd_cons (psd_set 1 sc_pieces.nd (pd_call rfl c_all_letters hr (by decide) (pad_cons (pd_var 0) pad_nil)))
  (psd_one (psd_ret (pd_tupOf rfl g_tuple (pd_fr (pdf_sortSetC (own := [("letter", 2)]) rfl hr rfl g_sorted sc_pieces.nd (pid_tup rfl (pd_var 1)) (blkOk_by (N := ["bonds", "letters", "letter"]) (sc := defScope s_pieces) (by decide +kernel)) (fun _ _ _ _ _ => (pgd_name 2 sc_pieces.nd)) (fun _ _ _ _ _ => (pd_call rfl c_piece_around hr (by decide) (pad_cons (pd_var 0) (pad_cons (pd_var 1) (pad_cons (pd_var 2) pad_nil)))))))))))
abbrev s__law_mixed : Stmt := top 42
theorem sc__law_mixed : FnScope ["cell", "n", "blend"] ["cell", "n"] (defScope s__law_mixed) := ⟨rfl, rfl, rfl, by decide +kernel, rfl, by decide +kernel, by decide +kernel⟩
theorem w__law_mixed {P : Program} {w : World} {K : PySem.W.Frag} {mg : PySem.Str → Option Value} {base : Heap} (g_int : mg "int" = none) (qual : PySem.Str) (f : Addr) (cdv : Value) (A : Around) (outer : List Env) (s : Shared) (H : Hp) (E : XK) (M : Option Mc) (X0 : List Addr)
    (hr : Room 0 (A.deeper (PyProof.Rows.envOfC qual (defScope s__law_mixed) s.heap.objs.size f cdv))) :
    PSs (cxOf CX0 P w K mg base ["cell", "n", "blend"] qual (defScope s__law_mixed) f cdv A outer s H E).nox (defBody s__law_mixed) (LS ⟨K, M, X0, H, []⟩ t__law_mixed) :=
  (psd_cons (psd_set 2 sc__law_mixed.nd (pd_add rfl (pd_add rfl (pd_mod (pd_int1 g_int (pd_mul rfl (pd_mul rfl (pd_var 0) (pd_add rfl pd_int (pd_mul rfl pd_int (pd_var 1)))) pd_int)) pd_int) (pd_mul rfl (pd_mul rfl pd_int (pd_var 1)) (pd_var 1))) (pd_mul rfl pd_int (pd_var 1))))
  (psd_one (psd_ret (pd_div (pd_mod (pd_int1 g_int (pd_mul rfl (pd_var 2) pd_int)) pd_int) pd_int))))
abbrev s__law_folded : Stmt := top 43
abbrev s__law_draw : Stmt := top 44
abbrev s__law_begun : Stmt := top 45
abbrev s__law_like : Stmt := top 46
theorem sc__law_like : FnScope ["told", "due"] ["told", "due"] (defScope s__law_like) := ⟨rfl, rfl, rfl, by decide +kernel, rfl, by decide +kernel, by decide +kernel⟩
theorem w__law_like {P : Program} {w : World} {K : PySem.W.Frag} {mg : PySem.Str → Option Value} {base : Heap} (g_repr : mg "repr" = none) (g_hsy : SysK K) (qual : PySem.Str) (f : Addr) (cdv : Value) (A : Around) (outer : List Env) (s : Shared) (H : Hp) (E : XK) (M : Option Mc) (X0 : List Addr)
    (gu : (A.deeper (PyProof.Rows.envOfC qual (defScope s__law_like) s.heap.objs.size f cdv)).guards = some []) (hr : Room 0 (A.deeper (PyProof.Rows.envOfC qual (defScope s__law_like) s.heap.objs.size f cdv))) :
    PSs (cxOf CX0 P w K mg base ["told", "due"] qual (defScope s__law_like) f cdv A outer s H E).nox (defBody s__law_like) (LS ⟨K, M, X0, H, []⟩ t__law_likeA) :=
  (psd_one (psd_ret (pd_cmp (OpR.or op_eq (op_eqD hr.units)) (fit_eq rfl) (pd_reprA rfl g_hsy gu hr g_repr (pd_var 0)) (pd_reprA rfl g_hsy gu hr g_repr (pd_var 1)))))
abbrev s__law_table : Stmt := top 47
theorem sc__law_table : FnScope ["m", "many", "some", "rows", "one", "other", "bond_so", "k"] ["m", "many", "some"] (defScope s__law_table) := ⟨rfl, rfl, rfl, by decide +kernel, rfl, by decide +kernel, by decide +kernel⟩
abbrev s__law_word : Stmt := top 48
theorem sc__law_word : FnScope ["m", "many", "most", "k"] ["m", "many", "most"] (defScope s__law_word) := ⟨rfl, rfl, rfl, by decide +kernel, rfl, by decide +kernel, by decide +kernel⟩
theorem w__law_word {P : Program} {w : World} {K : PySem.W.Frag} {mg : PySem.Str → Option Value} {base : Heap} (g_range : mg "range" = none) (c__law_draw : CalD P w K mg base 2 "_law_draw" true sp__law_draw) (qual : PySem.Str) (f : Addr) (cdv : Value) (A : Around) (outer : List Env) (s : Shared) (H : Hp) (E : XK) (M : Option Mc) (X0 : List Addr)
    (hr : Room 2 (A.deeper (PyProof.Rows.envOfC qual (defScope s__law_word) s.heap.objs.size f cdv))) :
    PSs (cxOf CX0 P w K mg base ["m", "many", "most", "k"] qual (defScope s__law_word) f cdv A outer s H E).nox (defBody s__law_word) (LS ⟨K, M, X0, H, []⟩ t__law_wordL) :=
  (psd_one (psd_ret (pd_fr (pdf_lc (own := [("k", 3)]) rfl sc__law_word.nd (pid_r1 g_range (pd_callM rfl c__law_draw hr (by decide) 0 (pad_cons (pd_add rfl (pd_var 2) pd_int) pad_nil))) (blkOk_by (N := ["m", "many", "most", "k"]) (sc := defScope s__law_word) (by decide +kernel)) (fun _ _ _ _ _ => (pgd_name 3 sc__law_word.nd)) (fun _ _ _ _ _ => pts_none) (fun _ _ _ _ _ => (pd_add rfl pd_int (pd_callM rfl c__law_draw hr (by decide) 0 (pad_cons (pd_var 1) pad_nil))))))))
abbrev s__law_near_of : Stmt := top 49
theorem sc__law_near_of : FnScope ["table", "found", "letter", "one"] ["table", "found", "letter"] (defScope s__law_near_of) := ⟨rfl, rfl, rfl, by decide +kernel, rfl, by decide +kernel, by decide +kernel⟩
theorem w__law_near_of {P : Program} {w : World} {K : PySem.W.Frag} {mg : PySem.Str → Option Value} {base : Heap}  (qual : PySem.Str) (f : Addr) (cdv : Value) (A : Around) (outer : List Env) (s : Shared) (H : Hp) (E : XK) (M : Option Mc) (X0 : List Addr)
    (hr : Room 0 (A.deeper (PyProof.Rows.envOfC qual (defScope s__law_near_of) s.heap.objs.size f cdv))) :
    PSs (cxOf CX0 P w K mg base ["table", "found", "letter", "one"] qual (defScope s__law_near_of) f cdv A outer s H E).nox (defBody s__law_near_of) (LS ⟨K, M, X0, H, []⟩ t__law_near_of) :=
  (psd_one (psd_ret (pd_cmp (OpR.or op_ne (op_neD hr.units)) (fit_ne rfl) (pd_fr (pdf_lc (own := [("one", 3)]) rfl sc__law_near_of.nd (pid_list rfl (pd_var 1)) (blkOk_by (N := ["table", "found", "letter", "one"]) (sc := defScope s__law_near_of) (by decide +kernel)) (fun _ _ _ _ _ => (pgd_name 3 sc__law_near_of.nd)) (fun _ _ _ _ _ => (ptsd_one (ptd_cmp (OpR.or op_ne (op_neD hr.units)) (fit_ne rfl) (pd_ix rfl (pd_ixN rfl 0 (pd_sub (pd_var 3) pd_int)) (pd_sub (pd_var 2) pd_int)) pd_int))) (fun _ _ _ _ _ => (pd_var 3)))) (pd_fr (pdf_lst pad_nil)))))
abbrev s__law_hangs : Stmt := top 50
theorem sc__law_hangs : FnScope ["table", "some", "found", "again", "letter"] ["table", "some"] (defScope s__law_hangs) := ⟨rfl, rfl, rfl, by decide +kernel, rfl, by decide +kernel, by decide +kernel⟩
theorem w__law_hangs {P : Program} {w : World} {K : PySem.W.Frag} {mg : PySem.Str → Option Value} {base : Heap} (g_list : mg "list" = none) (g_len : mg "len" = none) (c__law_near_of : CalD P w K mg base 1 "_law_near_of" false sp__law_near_of) (qual : PySem.Str) (f : Addr) (cdv : Value) (A : Around) (outer : List Env) (s : Shared) (H : Hp) (E : XK) (M : Option Mc) (X0 : List Addr)
    (hr : Room 1 (A.deeper (PyProof.Rows.envOfC qual (defScope s__law_hangs) s.heap.objs.size f cdv))) :
    PSs (cxOf CX0 P w K mg base ["table", "some", "found", "again", "letter"] qual (defScope s__law_hangs) f cdv A outer s H E).nox (defBody s__law_hangs) (LS ⟨K, M, X0, H, []⟩ t__law_hangs) :=
  (psd_cons (psd_set 2 sc__law_hangs.nd (pd_fr (pdf_lstOf rfl g_list (pd_slice rfl (pd_var 1) pod_none (pod_some pd_int)))))
  (psd_cons (psd_for PassesOwn.never rfl (pid_tup rfl (pd_var 1)) (pgd_name 3 sc__law_hangs.nd) (psd_one (psd_set 2 sc__law_hangs.nd (pd_add rfl (pd_var 2) (pd_fr (pdf_lc (own := [("letter", 4)]) rfl sc__law_hangs.nd (pid_tup rfl (pd_var 1)) (blkOk_by (N := ["table", "some", "found", "again", "letter"]) (sc := defScope s__law_hangs) (by decide +kernel)) (fun _ _ _ _ _ => (pgd_name 4 sc__law_hangs.nd)) (fun _ _ _ _ _ => (ptsd_one (PW.pt (pwd_and (ptd_cmp op_notIn_seq (fit_nin rfl) (pd_var 4) (pd_var 2)) (pwd_and1 (pt_tru rfl (pd_call rfl c__law_near_of hr (by decide) (pad_cons (pd_var 0) (pad_cons (pd_var 2) (pad_cons (pd_var 4) pad_nil)))))))))) (fun _ _ _ _ _ => (pd_var 4))))))))
  (psd_one (psd_ret (pd_andV (pd_cmp op_gt fit_gt (pd_lenN rfl g_len 1) pd_int) (pd_one (pd_cmp (OpR.or op_eq (op_eqD hr.units)) (fit_eq rfl) (pd_lenN rfl g_len 2) (pd_lenN rfl g_len 1))))))))
abbrev s__law_is_in : Stmt := top 51
theorem sc__law_is_in : FnScope ["one", "other", "letter"] ["one", "other"] (defScope s__law_is_in) := ⟨rfl, rfl, rfl, by decide +kernel, rfl, by decide +kernel, by decide +kernel⟩
theorem w__law_is_in {P : Program} {w : World} {K : PySem.W.Frag} {mg : PySem.Str → Option Value} {base : Heap}  (qual : PySem.Str) (f : Addr) (cdv : Value) (A : Around) (outer : List Env) (s : Shared) (H : Hp) (E : XK) (M : Option Mc) (X0 : List Addr)
    (hr : Room 0 (A.deeper (PyProof.Rows.envOfC qual (defScope s__law_is_in) s.heap.objs.size f cdv))) :
    PSs (cxOf CX0 P w K mg base ["one", "other", "letter"] qual (defScope s__law_is_in) f cdv A outer s H E).nox (defBody s__law_is_in) (LS ⟨K, M, X0, H, []⟩ t__law_is_in) :=
  (psd_one (psd_ret (pd_cmp (OpR.or op_eq (op_eqD hr.units)) (fit_eq rfl) (pd_fr (pdf_lc (own := [("letter", 2)]) rfl sc__law_is_in.nd (pid_tup rfl (pd_var 0)) (blkOk_by (N := ["one", "other", "letter"]) (sc := defScope s__law_is_in) (by decide +kernel)) (fun _ _ _ _ _ => (pgd_name 2 sc__law_is_in.nd)) (fun _ _ _ _ _ => (ptsd_one (ptd_cmp op_notIn_seq (fit_nin rfl) (pd_var 2) (pd_var 1)))) (fun _ _ _ _ _ => (pd_var 2)))) (pd_fr (pdf_lst pad_nil)))))
end BW
namespace T7
open PySem L2 DL
abbrev s__law_draw : Stmt := BW.s__law_draw
def sp__law_mixed : DSp := fun ds k R => ∃ a n : Int, ds = [.int a, .int n] ∧ 0 ≤ a ∧ a < 1000000000000000 ∧ 0 ≤ n ∧ n < 1000000000000 ∧ ∀ r, 0 ≤ r → r < 306783377 → R (.int r) k
theorem sc__law_draw : FnScope ["m", "limit", "n", "lot", "here", "cell"] ["m", "limit"] (defScope s__law_draw) := ⟨rfl, rfl, rfl, by decide +kernel, rfl, by decide +kernel, by decide +kernel⟩
def sp__law_draw : DSp := fun ds k R => ∃ z : Int, ds = [.int z] ∧ 0 < z ∧ z < 2 ^ 200 ∧ k < 100000000000 ∧ ∀ d, 0 ≤ d → d < z → R (.int d) (k + 1)
structure Zt (hid X0 : List Addr) (H H' : Hp) : Prop where
  sub : Sub (wo H (hid ++ X0)) (wo H' (hid ++ X0))
  old : ∀ a ∈ X0, H' a = H a
  tb : TbK H H'
theorem Zt.refl {hid X0 : List Addr} {H : Hp} : Zt hid X0 H H := ⟨Sub.refl _, fun _ _ => rfl, .refl⟩
theorem Zt.trans {hid X0 : List Addr} {H H1 H2 : Hp} (a : Zt hid X0 H H1) (b : Zt hid X0 H1 H2) : Zt hid X0 H H2 := ⟨a.sub.trans b.sub, fun x h => (b.old x h).trans (a.old x h), a.tb.trans b.tb⟩
theorem Zt.new {hid X0 : List Addr} {H : Hp} {p : Addr} {o : HO} (hp : H p = none) (xs : ∀ a ∈ X0, H a ≠ none) : Zt hid X0 H (upd H p o) := ⟨wo_new hp, fun a ha => upd_ne fun z => xs a ha (by rw [z]; exact hp), .new hp⟩
theorem Zt.mut {hid X0 : List Addr} {H : Hp} {p : Addr} {o : HO} (hp : p ∈ hid) (xm : ∀ a ∈ X0, a ∉ hid) (tb : TbK H (upd H p o)) : Zt hid X0 H (upd H p o) := ⟨wo_mut (List.mem_append_left _ hp), fun a ha => upd_ne fun z => xm a ha (by rw [z]; exact hp), tb⟩
section
variable {P : Program} {w : World} {K : PySem.W.Frag} {mg : PySem.Str → Option Value} {base : Heap}
theorem call_mixed {K : PySem.W.Frag} {H : Hp} {a n : Int} {Q : VK} {E : XK} {Y : List Addr} (xs : ∀ a ∈ Y, H a ≠ none) (xt : ∀ a ∈ Y, ∀ ps, H a ≠ some (.tbl ps)) (a0 : 0 ≤ a) (a1 : a < 1000000000000000) (n0 : 0 ≤ n) (n1 : n < 1000000000000) (h : ∀ r, 0 ≤ r → r < 306783377 → ∀ H', Sub (wo H Y) (wo H' Y) → (∀ a ∈ Y, H' a = H a) → TbK H H' → Q (.int r) H') :
    spD K false sp__law_mixed [.int a, .int n] H Q E := by
  refine ⟨none, Y, 0, [.int a, .int n], _, fun d _ => ∃ r, d = .int r ∧ 0 ≤ r ∧ r < 306783377, ⟨rfl, rfl⟩, ⟨fun _ _ => by simp [Ml], xs, trivial, .cons (.int _) (.cons (.int _) .nil), xt⟩, ⟨a, n, rfl, a0, a1, n0, n1, fun r r0 r1 => ⟨r, rfl, r0, r1⟩⟩, ?_⟩
  rintro d k' ⟨r, rfl, r0, r1⟩ v H' af er
  cases er.intE
  exact h r r0 r1 H' af.sub af.old af.tb
theorem ixN_nat {n j : Nat} (hj : j < n) : ixN n (j : Int) = some j := by
  unfold ixN
  rw [if_pos (by omega), if_pos (by omega)]
  simp
theorem mk_inv {n : Nat} {pc pg : Addr} : valV [((Sum.inr "cells" : Key), V.ref pc), (Sum.inr "great", .ref pg), (Sum.inr "spot", .int n)] (Sum.inr "spot") = some (.int n) := by rfl
theorem mk_gr {n : Int} {pc pg : Addr} : valV [((Sum.inr "cells" : Key), V.ref pc), (Sum.inr "great", .ref pg), (Sum.inr "spot", .int n)] (Sum.inr "great") = some (.ref pg) := by rfl
theorem mk_ce {n : Int} {pc pg : Addr} : valV [((Sum.inr "cells" : Key), V.ref pc), (Sum.inr "great", .ref pg), (Sum.inr "spot", .int n)] (Sum.inr "cells") = some (.ref pc) := by rfl
theorem mk_put {n j : Int} {pc pg : Addr} : putK [((Sum.inr "cells" : Key), V.ref pc), (Sum.inr "great", .ref pg), (Sum.inr "spot", .int n)] (Sum.inr "spot") (.int j) = [((Sum.inr "cells" : Key), V.ref pc), (Sum.inr "great", .ref pg), (Sum.inr "spot", .int j)] := by rfl
theorem ok__law_draw {f fm : Addr} {fd : FuncData} (F : Fun K "_law_draw" "_law_draw" s__law_draw f fd) (c__law_mixed : CalD P w K mg base 1 "_law_mixed" false sp__law_mixed) (g_len : mg "len" = none) (g_int : mg "int" = none) : FnOk P w K mg base CX0 2 f fd ["m", "limit"] (spD K true sp__law_draw) := by
  refine F.ok sc__law_draw (fun vs H Q E h => ?_) (fun cdv A outer s H vs Q E hr h => ?_)
  · obtain ⟨M, X0, k, ds, ws, R, ⟨m, _, rfl⟩, a, ⟨z, rfl, _⟩, _⟩ := h
    have := a.args.len
    rw [List.length_cons, this]
    rfl
  · obtain ⟨M, X0, k, ds, ws, R, ⟨m, rfl, rfl⟩, ⟨xm, xs, ⟨cs, gs, n, mo, hnk, htb⟩, ar, xt⟩, ⟨z, rfl, z0, z1, hk, hR⟩, fin⟩ := h
    cases ar with
    | cons e1 e2 =>
      cases e2
      cases e1.intE
      obtain ⟨fm, fdm, psm, Gm, hmm, kpm, bm⟩ := c__law_mixed.ex
      have hu := hu_of hr
      refine ⟨_, pss_cons (ps_set (i := 2) sc__law_draw.nd rfl (.inl rfl) (pe_dget hu (pv 0) pe_str (fun _ _ => rfl)))
        (pss_cons (ps_dput hu (pv 0) pe_str (pe_op op_add (pv 2) pe_int) rfl)
        (pss_cons (ps_if (pt_cmpR (op_neD hr.units) (pe_dget hu (pv 0) pe_str (fun _ _ => rfl)) (pe_lst pa_nil) (nomark _))
          (pss_cons (ps_set (i := 3) sc__law_draw.nd rfl (.inl rfl) (pe_dget hu (pv 0) pe_str (fun _ _ => rfl)))
          (pss_cons (ps_set (i := 4) sc__law_draw.nd rfl (.inl rfl) (pe_op op_mod (pe_callTy call_int1 rfl g_int PyProof.Rows.boot_int (pa_cons (pv 2) pa_nil)) (pe_callB call_len_seq rfl g_len PySem.boot_len (pa_cons (pv 3) pa_nil))))
          (pss_cons (ps_set (i := 5) sc__law_draw.nd rfl (.inl rfl) (pe_ix ix_list (pv 3) (pv 4) (fun _ _ => rfl)))
          (pss_one (ps_if (pt_cmpR op_gt (pv 5) pe_int (nomark _))
            (pss_cons (ps_asg (pe_op op_fdivW (pv 5) (pv 1)) (pg_sub (pv 3) (pv 4) set_list)) (pss_one (ps_ret (pe_op op_mod (pe_callTy call_int1 rfl g_int PyProof.Rows.boot_int (pa_cons (pv 5) pa_nil)) (pv 1)))))
            pss_nil)))))
          pss_nil)
        (pss_cons (ps_set (i := 3) sc__law_draw.nd rfl (.inl rfl) (pe_dget hu (pv 0) pe_str (fun _ _ => rfl)))
        (pss_one (ps_ret (pe_op op_mod (pe_callTy call_int1 rfl g_int PyProof.Rows.boot_int (pa_cons (pe_call Gm hr rfl hmm kpm bm .nil pass0 (pa_cons (pe_call Gm hr rfl hmm kpm bm .nil pass0 (pa_cons (pe_op op_add (pe_ix ix_list (pv 3) (pe_op op_mod (pe_callTy call_int1 rfl g_int PyProof.Rows.boot_int (pa_cons (pv 2) pa_nil)) pe_int) (fun _ _ => rfl)) (pe_op op_mul pe_int (pe_op op_fdiv (pv 2) pe_int))) (pa_cons (pv 2) pa_nil)))
          (pa_cons (pe_op op_add (pv 2) pe_int) pa_nil))) pa_nil)) (pv 1))))))), ?_⟩
      have ne1 : m.pg ≠ m.pm := fun q => by have h := mo.hg; rw [q, mo.hm] at h; cases h
      have ne2 : m.pc ≠ m.pm := fun q => by have h := mo.hc; rw [q, mo.hm] at h; cases h
      have npcg : m.pc ≠ m.pg := fun q => by
        have h := mo.hg
        rw [← q, mo.hc] at h
        have h := congrArg List.length (HO.lst.inj (Option.some.inj h))
        rw [List.length_map, List.length_map, mo.lc] at h
        have := mo.lg
        omega
      have in1 : m.pm ∈ Ml (some m) := by simp [Ml]
      have in2 : m.pg ∈ Ml (some m) := by simp [Ml]
      -- n = m['spot']; m['spot'] = n + 1
      refine ⟨_, rfl, _, _, rfl, (mk_inv (n := n)) ▸ DGet.k (k := Sum.inr "spot") mo.hm, ?_⟩
      refine ⟨_, rfl, _, _, rfl, rfl, _, rfl, _, _, rfl, DPut.k (k := Sum.inr "spot") mo.hm (by show 3 < sizeLine; decide), ?_⟩
      rw [mk_put]
      generalize hH1 : upd H m.pm (.dK [((Sum.inr "cells" : Key), V.ref m.pc), (Sum.inr "great", .ref m.pg), (Sum.inr "spot", .int ((n : Int) + 1))]) = H1
      have hm1 : H1 m.pm = some (.dK [((Sum.inr "cells" : Key), V.ref m.pc), (Sum.inr "great", .ref m.pg), (Sum.inr "spot", .int ((n : Int) + 1))]) := by rw [← hH1]; exact upd_same
      have hc1 : H1 m.pc = some (.lst (cs.map V.int)) := by rw [← hH1, upd_ne ne2]; exact mo.hc
      have hg1 : H1 m.pg = some (.lst (gs.map V.int)) := by rw [← hH1, upd_ne ne1]; exact mo.hg
      have z01 : Zt (Ml (some m)) X0 H H1 := by rw [← hH1]; exact Zt.mut in1 xm (.at_ mo.hm)
      have xs1 : ∀ a ∈ X0, H1 a ≠ none := fun a ha => by rw [z01.old a ha]; exact xs a ha
      clear hH1
      -- m['great'] != []
      refine ⟨_, rfl, _, _, rfl, mk_gr (n := (n : Int) + 1) ▸ DGet.k (k := Sum.inr "great") hm1, Nat.zero_le _, fun p hp => ?_⟩
      generalize hH2 : upd H1 p (.lst []) = H2
      have kp : Sub H1 H2 := fun b o e => by rw [← hH2, upd_ne (ne_of_none e hp)]; exact e
      have hm2 := kp _ _ hm1
      have hc2 := kp _ _ hc1
      have hg2 := kp _ _ hg1
      have z02 : Zt (Ml (some m)) X0 H H2 := z01.trans (by rw [← hH2]; exact Zt.new hp xs1)
      have xs2 : ∀ a ∈ X0, H2 a ≠ none := fun a ha => by rw [z02.old a ha]; exact xs a ha
      have np : H2 p = some (.lst []) := by rw [← hH2]; exact upd_same
      clear hH2
      have dp : Dp K H2 (.ref m.pg) (.list (gs.map PyData.int)) := by
        have q := Rl.dp (K := K) (H := H2) (.lst (gs.map D.int)) (.lst hg2 (RlA.ints gs)) (plain_ints gs)
        show Dp K H2 (.ref m.pg) (.list (gs.map PyData.int))
        rw [← py_ints gs]
        exact q
      have sh : SeqAt.shaped (.list (gs.map PyData.int)) = true := by
        have q := okE_lstI gs
        unfold D.okE at q
        have q2 := (Bool.and_eq_true_iff.mp q).2
        have e : (D.lst (gs.map D.int)).py = .list (gs.map PyData.int) := by
          show PyData.list (pyA (gs.map D.int)) = _
          rw [py_ints]
        rw [e] at q2
        exact q2
      refine ⟨.list (gs.map PyData.int), .list [], dp, .lst (SqL.of np) .nil, sh, by decide, _, rfl, ?_⟩
      have ev : PyData.eqv (.list (gs.map PyData.int)) (.list []) = decide (gs = []) := by
        have q := eqv_ints gs []
        exact q
      rw [ev]
      -- the end: a remainder of something by z
      have fin' : ∀ (r : Int) (H' : Hp), Zt (Ml (some m)) X0 H H' → (∃ cs gs, MOk m H' cs gs (n + 1)) → Q (.int (r % z)) H' := fun r H' zt ⟨cs', gs', mo'⟩ =>
        fin (.int (r % z)) (k + 1) (hR _ (Int.emod_nonneg _ (by omega)) (Int.emod_lt_of_pos _ z0)) _ H' ⟨zt.sub, zt.old, ⟨cs', gs', n + 1, mo', by omega, zt.tb.tabs _ htb⟩, zt.tb⟩ (.int _)
      -- behind the if: a cell is mixed
      have low : ∀ v : Option V, ∀ v4 v5 : Option V, (tSeq (tAsg (tDGet (tVar 0) (tC (.str "cells"))) (gName 3)) (tRet (tOp (rI (fun _ j => 0 < j) fun i j => .int (i % j)) (tCB (fun xs H Q => (∃ i, xs = [.int i] ∧ Q (.int i) H) ∨ ∃ k, xs = [.bl k] ∧ Q (.int (if k then 1 else 0)) H) (tCons (tCall (spD K false sp__law_mixed) [] E0 (tCons (tCall (spD K false sp__law_mixed) [] E0 (tCons (tOp (rI0 fun i j => .int (i + j)) (tOp (rIxL K) (tVar 3) (tOp (rI (fun _ j => 0 < j) fun i j => .int (i % j)) (tCB (fun xs H Q => (∃ i, xs = [.int i] ∧ Q (.int i) H) ∨ ∃ k, xs = [.bl k] ∧ Q (.int (if k then 1 else 0)) H) (tCons (tVar 2) tNil)) (tC (.int 64)))) (tOp (rI CMul fun i j => .int (i * j)) (tC (.int 31)) (tOp (rI CDiv fun i j => .int (i / j)) (tVar 2) (tC (.int 64))))) (tCons (tVar 2) tNil))) (tCons (tOp (rI0 fun i j => .int (i + j)) (tVar 2) (tC (.int 7))) tNil))) tNil)) (tVar 1))))
          { nx := fun _ H' => Q .non H', rt := Q } [some (.ref m.pm), some (.int z), some (.int n), v, v4, v5] H2 := fun v v4 v5 => by
        refine ⟨_, rfl, _, _, rfl, mk_ce (n := (n : Int) + 1) ▸ DGet.k (k := Sum.inr "cells") hm2, ?_⟩
        have hi : n % 64 < cs.length := by rw [mo.lc]; exact Nat.mod_lt _ (by decide)
        obtain ⟨x, hx⟩ : ∃ x, cs[n % 64]? = some x := ⟨cs[n % 64], by simp [hi]⟩
        have bx := mo.bc x (List.mem_of_getElem? hx)
        refine ⟨_, rfl, _, rfl, .inl ⟨_, rfl, _, _, rfl, rfl, by show (0 : Int) < 64; decide, _, _, _, V.int x, rfl, rfl, SqL.of hc2, ?_, ?_⟩⟩
        · have e : ((n : Int) % 64) = ((n % 64 : Nat) : Int) := by omega
          rw [e]
          exact atI_nat (by rw [List.getElem?_map, hx]; rfl)
        refine ⟨_, rfl, _, _, rfl, rfl, ⟨by decide, by decide⟩, _, _, rfl, rfl, .inl ⟨by decide, by decide⟩, _, _, rfl, rfl, _, rfl, ?_⟩
        have hY : ∀ a ∈ Ml (some m) ++ X0, H2 a ≠ none := fun a ha => by
          rcases List.mem_append.mp ha with ha | ha
          · simp [Ml] at ha
            rcases ha with rfl | rfl | rfl
            · rw [hm2]; simp
            · rw [hc2]; simp
            · rw [hg2]; simp
          · exact xs2 a ha
        have tY : ∀ a ∈ Ml (some m) ++ X0, ∀ ps, H2 a ≠ some (.tbl ps) := fun a ha ps => by
          rcases List.mem_append.mp ha with ha | ha
          · simp [Ml] at ha
            rcases ha with rfl | rfl | rfl
            · rw [hm2]; intro e; cases e
            · rw [hc2]; intro e; cases e
            · rw [hg2]; intro e; cases e
          · rw [z02.old a ha]; exact xt a ha ps
        refine call_mixed (E := E0) hY tY (by omega) (by omega) (by omega) (by omega) fun r r0 r1 H3 s3 o3 t3 => ?_
        refine ⟨_, rfl, _, _, rfl, rfl, ?_⟩
        refine call_mixed (E := E0) (fun a ha => by rw [o3 a ha]; exact hY a ha) (fun a ha => by rw [o3 a ha]; exact tY a ha) (by omega) (by omega) (by omega) (by omega) fun r' r0' r1' H4 s4 o4 t4 => ?_
        refine .inl ⟨_, rfl, _, rfl, _, _, rfl, rfl, z0, ?_⟩
        have o24 : ∀ a ∈ Ml (some m) ++ X0, H4 a = H2 a := fun a ha => (o4 a ha).trans (o3 a ha)
        have z04 : Zt (Ml (some m)) X0 H H4 := z02.trans ⟨s3.trans s4, fun a ha => o24 a (List.mem_append_right _ ha), t3.trans t4⟩
        exact fin' r' H4 z04 ⟨cs, gs, ⟨(o24 _ (by simp [Ml])).trans hm2, (o24 _ (by simp [Ml])).trans hc2, (o24 _ (by simp [Ml])).trans hg2, mo.lc, mo.bc, mo.lg, mo.bg⟩⟩
      by_cases hgs : gs = []
      · rw [decide_eq_true hgs]
        exact iteF (low _ _ _)
      · rw [decide_eq_false hgs]
        refine iteT ?_
        have lp : 0 < gs.length := List.length_pos_iff.mpr hgs
        refine ⟨_, rfl, _, _, rfl, mk_gr (n := (n : Int) + 1) ▸ DGet.k (k := Sum.inr "great") hm2, ?_⟩
        refine ⟨_, rfl, .inl ⟨_, rfl, _, rfl, _, _, rfl, .inl (SqL.of hg2), _, _, rfl, rfl, by rw [List.length_map]; omega, ?_⟩⟩
        have hi : n % gs.length < gs.length := Nat.mod_lt _ lp
        obtain ⟨x, hx⟩ : ∃ x, gs[n % gs.length]? = some x := ⟨gs[n % gs.length], by simp [hi]⟩
        have bx := mo.bg x (List.mem_of_getElem? hx)
        have en : ((n : Int) % ((gs.map V.int).length : Int)) = ((n % gs.length : Nat) : Int) := by rw [List.length_map]; omega
        refine ⟨_, rfl, _, rfl, _, _, _, V.int x, rfl, rfl, SqL.of hg2, by rw [en]; exact atI_nat (by rw [List.getElem?_map, hx]; rfl), ?_⟩
        refine ⟨_, rfl, _, _, rfl, rfl, _, rfl, ?_⟩
        by_cases hx0 : 0 < x
        · rw [decide_eq_true hx0]
          refine iteT ?_
          refine ⟨_, rfl, _, rfl, _, _, rfl, rfl, ⟨z0, ?_⟩, _, rfl, _, rfl, _, _, _, n % gs.length, rfl, rfl, hg2, ?_, ?_⟩
          · have : z.natAbs < 2 ^ 200 := by omega
            exact Nat.lt_of_lt_of_le (PySem.Flt.log2_lt_of (by decide) this) (by decide)
          · rw [en]; exact ixN_nat (by rw [List.length_map]; exact hi)
          · refine ⟨_, rfl, .inl ⟨_, rfl, _, rfl, _, _, rfl, rfl, z0, ?_⟩⟩
            have ne3 : m.pc ≠ m.pg := npcg
            refine fin' x _ (z02.trans (Zt.mut in2 xm (.at_ hg2))) ⟨cs, gs.set (n % gs.length) (x / z), ⟨?_, ?_, ?_, mo.lc, mo.bc, ?_, ?_⟩⟩
            · rw [upd_ne ne1.symm]; exact hm2
            · rw [upd_ne ne3]; exact hc2
            · rw [upd_same, List.map_set]
            · rw [List.length_set]; exact mo.lg
            · intro y hy
              rcases List.mem_or_eq_of_mem_set hy with h | h
              · exact mo.bg y h
              · rw [h]; exact Int.ediv_nonneg (by omega) (by omega)
        · rw [decide_eq_false hx0]
          exact iteF (low _ _ _)
end
end T7
namespace T7
open PySem L2 DL PyProof.Rows
abbrev s__law_folded : Stmt := BW.s__law_folded
theorem sc__law_folded : FnScope ["script", "found", "n", "cell"] ["script"] (defScope s__law_folded) := ⟨rfl, rfl, rfl, by decide +kernel, rfl, by decide +kernel, by decide +kernel⟩
abbrev t__law_folded : DS := (dSeq (dSetO 1 (dLc (iR1 (dC (.int 64))) (dgN 2) dY (dOp oAdd (dC (.int 17)) (dVar 2)) [2]))
  (dSeq (dFor (iScE 0) (dgTup 2 (dgCons (dgN 2) (dgCons (dgN 3) dgNil))) (dSix 1 (dOp oMod (dInt (dVar 2)) (dC (.int 64))) (dOp oMod (dInt (dOp oAdd (dOp oMul (dIxN 1 (dOp oMod (dInt (dVar 2)) (dC (.int 64)))) (dC (.int 48271))) (dVar 3))) (dC (.int 2147483647)))))
  (dSeq (dFor (iR2 (dC (.int 1)) (dC (.int 64))) (dgN 2) (dSix 1 (dVar 2) (dOp oMod (dInt (dOp oAdd (dIxN 1 (dVar 2)) (dOp oMul (dIxN 1 (dOp oSub (dVar 2) (dC (.int 1)))) (dC (.int 16807))))) (dC (.int 2147483647)))))
  (dRet (dVar 1)))))
theorem w__law_folded {P : Program} {w : World} {K : PySem.W.Frag} {mg : PySem.Str → Option Value} {base : Heap} (g_range : mg "range" = none) (g_enumerate : mg "enumerate" = none) (g_int : mg "int" = none) (qual : PySem.Str) (f : Addr) (cdv : Value) (A : Around) (outer : List Env) (s : Shared) (H : Hp) (E : XK) (M : Option Mc) (X0 : List Addr)
    (hr : Room 0 (A.deeper (PyProof.Rows.envOfC qual (defScope s__law_folded) s.heap.objs.size f cdv))) :
    PSs (cxOf CX0 P w K mg base ["script", "found", "n", "cell"] qual (defScope s__law_folded) f cdv A outer s H E).nox (defBody s__law_folded) (LS ⟨K, M, X0, H, [1]⟩ t__law_folded) :=
  (psd_cons (psd_setLcO 1 (own := [("n", 2)]) rfl sc__law_folded.nd (pid_r1 g_range pd_int) (blkOk_by (N := ["script", "found", "n", "cell"]) (sc := defScope s__law_folded) (by decide +kernel)) (fun _ _ _ _ _ => (pgd_name 2 sc__law_folded.nd)) (fun _ _ _ _ _ => pts_none) (fun _ _ _ _ _ => (pd_add rfl pd_int (pd_var 2))))
  (psd_cons (psd_for PassesOwn.never rfl (pid_scrE rfl 0 g_enumerate) (pgd_tup rfl rfl (pgds_cons (pgd_name 2 sc__law_folded.nd) (pgds_cons (pgd_name 3 sc__law_folded.nd) pgds_nil))) (psd_one (psd_six 1 (pd_mod (pd_int1 g_int (pd_var 2)) pd_int) (pd_mod (pd_int1 g_int (pd_add rfl (pd_mul rfl (pd_ixN rfl 1 (pd_mod (pd_int1 g_int (pd_var 2)) pd_int)) pd_int) (pd_var 3))) pd_int))))
  (psd_cons (psd_for PassesOwn.never rfl (pid_r2 g_range pd_int pd_int) (pgd_name 2 sc__law_folded.nd) (psd_one (psd_six 1 (pd_var 2) (pd_mod (pd_int1 g_int (pd_add rfl (pd_ixN rfl 1 (pd_var 2)) (pd_mul rfl (pd_ixN rfl 1 (pd_sub (pd_var 2) pd_int)) pd_int))) pd_int))))
  (psd_one (psd_ret (pd_var 1))))))
def sp__law_folded : List Int → (D → Prop) → Prop := fun ns R => ∀ cs : List Int, cs.length = 64 → (∀ x ∈ cs, 0 ≤ x ∧ x < 2147483647) → R (.lst (cs.map .int))
theorem r__law_folded (ns : List Int) (R : D → Prop) (h : sp__law_folded ns R) : t__law_folded { nx := fun _ => R .non, rt := fun d _ => R d } ⟨[], .scr ns :: List.replicate (4 - 1) .no, 0⟩ := by
  refine ⟨_, rfl, by decide, by decide, by decide, fun p hp => ⟨fun i acc k => k = 0 ∧ ∃ cs : List Int, acc = cs.map .int ∧ cs.length = i ∧ ∀ x ∈ cs, 0 ≤ x ∧ x < 2147483647, ?_, ?_, ?_⟩⟩
  · exact ⟨rfl, [], rfl, rfl, fun _ h => (nomatch h)⟩
  · rintro i d acc k hd ⟨rfl, cs, rfl, rfl, hc⟩ hl
    obtain ⟨hi, rfl⟩ := rngD_at hd
    have hi : cs.length < 64 := hi
    refine iteT ⟨_, rfl, ?_⟩
    refine ⟨rfl, cs ++ [17 + (0 + (cs.length : Int))], ?_, by simp, ?_⟩
    · rw [List.map_append]; rfl
    · intro x hx
      rcases List.mem_append.mp hx with h | h
      · exact hc x h
      · simp at h
        omega
  · rintro acc k ⟨rfl, cs, rfl, hc, hb⟩ hl q hq
    have hc : cs.length = 64 := by rw [hc, rngD_len]; rfl
    refine ⟨ns, rfl, fun i s' => ∃ (cs : List Int) (x y : Sl), s' = ⟨[q], [.scr ns, .own q (cs.map .int), x, y], 0⟩ ∧ cs.length = 64 ∧ ∀ x ∈ cs, 0 ≤ x ∧ x < 2147483647, ?_, ?_, ?_⟩
    · exact ⟨cs, _, _, rfl, hc, hb⟩
    · rintro i d s' hd ⟨cs, x, y, rfl, hc, hb⟩
      obtain ⟨e, he, rfl⟩ := enum_at hd
      rw [List.getElem?_map] at he
      obtain ⟨c, hc', rfl⟩ := Option.map_eq_some_iff.mp he
      refine ⟨rfl, rfl, ?_⟩
      have hj : i % 64 < cs.length := by rw [hc]; exact Nat.mod_lt _ (by decide)
      obtain ⟨v, hv⟩ : ∃ v, cs[i % 64]? = some v := ⟨cs[i % 64], by simp [hj]⟩
      have bv := hb v (List.mem_of_getElem? hv)
      have ei : (((0 + i : Nat) : Int) % 64) = ((i % 64 : Nat) : Int) := by omega
      have hv' : (cs.map D.int)[i % 64]? = some (.int v) := by rw [List.getElem?_map, hv]; rfl
      refine ⟨_, _, rfl, ?_⟩
      refine ⟨_, rfl, _, rfl, _, rfl, by omega, _, .int v, rfl, by rw [ei]; exact atI_nat hv', ?_⟩
      refine ⟨Or.inl ⟨by omega, by omega⟩, _, rfl, _, rfl, by omega, ?_⟩
      refine ⟨_, rfl, _, rfl, by omega, _, _, rfl, by rw [ei]; exact ixN_nat (by rw [List.length_map]; exact hj), ?_⟩
      refine ⟨cs.set (i % 64) ((v * 48271 + c) % 2147483647), _, _, by rw [List.map_set]; rfl, by rw [List.length_set]; exact hc, fun z hz => ?_⟩
      rcases List.mem_or_eq_of_mem_set hz with h | h
      · exact hb z h
      · omega
    · rintro s' ⟨cs, x, y, rfl, hc, hb⟩
      refine ⟨_, _, rfl, rfl, ⟨by decide, by decide, by decide, by decide⟩, fun i s' => ∃ (cs : List Int) (x : Sl), s' = ⟨[q], [.scr ns, .own q (cs.map .int), x, y], 0⟩ ∧ cs.length = 64 ∧ ∀ x ∈ cs, 0 ≤ x ∧ x < 2147483647, ⟨cs, _, rfl, hc, hb⟩, ?_, ?_⟩
      · rintro i d s' hd ⟨cs, x, rfl, hc, hb⟩
        obtain ⟨hi, rfl⟩ := rngD_at hd
        have hi : i < 63 := hi
        have j1 : i + 1 < cs.length := by omega
        have j0 : i < cs.length := by omega
        obtain ⟨v, hv⟩ : ∃ v, cs[i + 1]? = some v := ⟨cs[i + 1], by simp [j1]⟩
        obtain ⟨u, hu⟩ : ∃ u, cs[i]? = some u := ⟨cs[i], by simp [j0]⟩
        have bv := hb v (List.mem_of_getElem? hv)
        have bu := hb u (List.mem_of_getElem? hu)
        have hv' : (cs.map D.int)[i + 1]? = some (.int v) := by rw [List.getElem?_map, hv]; rfl
        have hu' : (cs.map D.int)[i]? = some (.int u) := by rw [List.getElem?_map, hu]; rfl
        have e1 : (1 + (i : Int)) = ((i + 1 : Nat) : Int) := by omega
        have e0 : (1 + (i : Int) - 1) = (i : Int) := by omega
        refine ⟨_, _, rfl, ?_⟩
        refine ⟨_, rfl, _, rfl, _, .int v, rfl, by rw [e1]; exact atI_nat hv', ?_⟩
        refine ⟨_, rfl, _, rfl, _, .int u, rfl, by rw [e0]; exact atI_nat hu', ?_⟩
        refine ⟨Or.inl ⟨by omega, by omega⟩, _, rfl, by omega, ?_⟩
        refine ⟨_, rfl, _, _, rfl, by rw [e1]; exact ixN_nat (by rw [List.length_map]; exact j1), ?_⟩
        refine ⟨cs.set (i + 1) ((v + u * 16807) % 2147483647), _, by rw [List.map_set]; rfl, by rw [List.length_set]; exact hc, fun z hz => ?_⟩
        rcases List.mem_or_eq_of_mem_set hz with h | h
        · exact hb z h
        · omega
      · rintro s' ⟨cs, x, rfl, hc, hb⟩ X
        exact ⟨_, rfl, h cs hc hb⟩
theorem ok__law_folded {P : Program} {w : World} {K : PySem.W.Frag} {mg : PySem.Str → Option Value} {base : Heap} {f : Addr} {fd : FuncData} (F : Fun K "_law_folded" "_law_folded" s__law_folded f fd) (g_range : mg "range" = none) (g_enumerate : mg "enumerate" = none) (g_int : mg "int" = none) : FnOk P w K mg base CX0 1 f fd ["script"] (spS K sp__law_folded) :=
  okS F sc__law_folded [1] ⟨t__law_folded, fun cdv A outer s H E hr => w__law_folded g_range g_enumerate g_int _ f cdv A outer s H E none [] hr, r__law_folded⟩
end T7
namespace T7
open PySem L2 DL
abbrev s__law_begun : Stmt := BW.s__law_begun
theorem sc__law_begun : FnScope ["script", "m", "cell"] ["script"] (defScope s__law_begun) := ⟨rfl, rfl, rfl, by decide +kernel, rfl, by decide +kernel, by decide +kernel⟩
def spBegun (K : PySem.W.Frag) : Sp := fun vs H Q _ => ∃ (a : Addr) (ns : List Int), vs = [.ref a] ∧ SqL K H a (ns.map V.int) ∧ ns.length ≤ 63 ∧ ∀ (m : Mc) (H' : Hp) (cs gs : List Int), TbK H H' → MOk m H' cs gs 0 → Q (.ref m.pm) H'
theorem PE.ex {X : Cx} {e : Expr} {K : PySem.W.Frag} {f : C → TE} (h : ∀ c, c.K = K → PE X e (f c)) : PE X e (fun σ H Q => ∃ c, c.K = K ∧ f c σ H Q) := ⟨fun pins s σ H Q I ⟨c, hc, q⟩ => (h c hc).run pins s σ H Q I q⟩
theorem rep0 {K : PySem.W.Frag} {H : Hp} {a : Addr} {ns : List Int} {σ : L2.St} {n : Nat} (h : SqL K H a (ns.map V.int)) (e : σ[0]? = some (some (.ref a))) (hl : σ.length = n + 1) : Rep ⟨K, none, [], H, []⟩ ⟨[], .scr ns :: List.replicate n .no, 0⟩ σ H := by
  refine ⟨Sub.refl _, fun _ h => (nomatch h), fun _ h => h, fun _ h => (nomatch h), fun _ h => (nomatch h), trivial, fun i z e' => ?_, fun i j p q ds es e' _ _ => ?_, ?_, .refl, fun _ h => (nomatch h)⟩
  · cases i with
    | zero =>
      obtain rfl : Sl.scr ns = z := Option.some.inj e'
      exact ⟨a, e, sl_in h⟩
    | succ i =>
      have e' : (List.replicate n Sl.no)[i]? = some z := e'
      rw [List.getElem?_replicate] at e'
      split at e'
      · cases e'; trivial
      · cases e'
  · have e' : (Sl.scr ns :: List.replicate n Sl.no)[i]? = some (.own p ds) := e'
    have mem := List.mem_of_getElem? e'
    simp at mem
  · show (Sl.scr ns :: List.replicate n Sl.no).length = σ.length
    simp [hl]
section
variable {P : Program} {w : World} {K : PySem.W.Frag} {mg : PySem.Str → Option Value} {base : Heap}
theorem ok__law_begun {f ff : Addr} {fd fdf : FuncData} (F : Fun K "_law_begun" "_law_begun" s__law_begun f fd) (Gf : FnOk P w K mg base CX0 1 ff fdf ["script"] (spS K sp__law_folded)) (hmf : mg "_law_folded" = some (.ref ff)) (kpf : PySem.W.keepIn K (.ref ff) = true) (bf : Binds K fdf ["script"] []) : FnOk P w K mg base CX0 2 f fd ["script"] (spBegun K) := by
  refine F.ok sc__law_begun (fun vs H Q E h => ?_) (fun cdv A outer s H vs Q E hr h => ?_)
  · obtain ⟨a, ns, rfl, _⟩ := h
    rfl
  · obtain ⟨a, ns, rfl, ha, hl, fin⟩ := h
    have hu := hu_of hr
    refine ⟨_, pss_cons (ps_set (i := 1) sc__law_begun.nd rfl (.inl rfl) (pe_disp (pps_cons pe_str (pe_call Gf hr rfl hmf kpf bf .nil pass0 (pa_cons (pv 0) pa_nil)) (pps_cons pe_str (pe_lst pa_nil) (pps_cons pe_str pe_int pps_nil))) rfl rfl (by simp) (by decide)))
      (pss_cons (ps_dput hu (pv 1) pe_str (PE.ex (K := K) (f := fun c => LF c (dLc (iScr 0) (dgN 2) dY (dIf (dTB (dOp oGe (dVar 2) (dOp oPow (dC (.int 10)) (dC (.int 18))))) (dVar 2) (dC (.int 0))) [2])) fun c hc => (pdf_lc (own := [("cell", 2)]) rfl sc__law_begun.nd (pid_scr hc 0) (blkOk_by (N := ["script", "m", "cell"]) (sc := defScope s__law_begun) (by decide +kernel)) (fun _ _ _ _ _ => (pgd_name 2 sc__law_begun.nd)) (fun _ _ _ _ _ => pts_none) (fun _ _ _ _ _ => (pd_if (ptd_cmp op_ge fit_ge (pd_var 2) (pd_pow pd_int pd_int)) (pd_var 2) pd_int)))) rfl)
      (pss_one (ps_ret (pv 1)))), ?_⟩
    intro p hp
    have s1 : Sub H (upd H p (.dK [])) := fun b o e => by rw [upd_ne (ne_of_none e hp)]; exact e
    refine ⟨_, rfl, ?_⟩
    refine ⟨a, ns, fun d => ∃ cs : List Int, d = .lst (cs.map .int) ∧ cs.length = 64 ∧ ∀ x ∈ cs, 0 ≤ x ∧ x < 2147483647, rfl, s1.sl ha, fun cs h1 h2 => ⟨cs, rfl, h1, h2⟩, ?_⟩
    rintro d ⟨cs, rfl, hc, hb⟩ v H2 s2 t2 rv
    obtain ⟨pc, vs, rfl, hpc, ra⟩ := rv.lstE
    obtain rfl := ra.ints_v
    have p2 : H2 p = some (.dK []) := s2.out upd_same
    refine ⟨Nat.zero_le _, fun q hq => ?_⟩
    have nqp : p ≠ q := ne_of_none p2 hq
    refine ⟨by rw [upd_ne nqp]; exact p2, [(Sum.inr "cells", .ref pc), (Sum.inr "great", .ref q), (Sum.inr "spot", .int 0)], rfl, by show 3 ≤ 15; decide, ?_⟩
    have mk : mergeK [] [((Sum.inr "cells" : Key), V.ref pc), (Sum.inr "great", .ref q), (Sum.inr "spot", .int 0)] = [((Sum.inr "cells" : Key), V.ref pc), (Sum.inr "great", .ref q), (Sum.inr "spot", .int 0)] := by rfl
    rw [mk]
    generalize hH4 : upd (upd H2 q (.lst [])) p (.dK [((Sum.inr "cells" : Key), V.ref pc), (Sum.inr "great", .ref q), (Sum.inr "spot", .int 0)]) = H4
    have npc : pc ≠ p := fun z => by rw [z, p2] at hpc; cases hpc
    have p4 : H4 p = some (.dK [((Sum.inr "cells" : Key), V.ref pc), (Sum.inr "great", .ref q), (Sum.inr "spot", .int 0)]) := by rw [← hH4]; exact upd_same
    have c4 : H4 pc = some (.lst (cs.map V.int)) := by rw [← hH4, upd_ne npc, upd_ne (ne_of_none hpc hq)]; exact hpc
    have t4 : TbK H H4 := by
      rw [← hH4]
      exact (TbK.new hp).trans (t2.trans ((TbK.new hq).trans (TbK.at_ (by rw [upd_ne nqp]; exact p2))))
    have s4 : ∀ b o, NoTb o → H b = some o → H4 b = some o := fun b o n e => by
      rw [← hH4]
      have e2 := s2.out (s1 _ _ e) n
      rw [upd_ne (ne_of_none e hp), upd_ne (ne_of_none e2 hq)]
      exact e2
    have a4 : SqL K H4 a (ns.map V.int) := by
      rcases ha with (h | ⟨o, h⟩) | h
      · exact .inl (.inl (s4 _ _ (by intro _ z; cases z) h))
      · exact .inl (.inr ⟨o, s4 _ _ (by intro _ z; cases z) h⟩)
      · exact .inr h
    clear hH4
    refine ⟨⟨K, none, [], H4, []⟩, rfl, ⟨[], .scr ns :: List.replicate 2 .no, 0⟩, fun ds k => ∃ gs : List Int, ds = gs.map .int ∧ gs.length ≤ 63 ∧ ∀ x ∈ gs, 0 ≤ x, rep0 a4 rfl rfl, ?_, ?_⟩
    · refine ⟨ns, rfl, by rw [List.length_map]; exact Nat.le_trans hl (by decide), fun p hp => ⟨fun i acc k => ∃ gs : List Int, acc = gs.map .int ∧ gs.length = i ∧ ∀ x ∈ gs, 0 ≤ x, ⟨[], rfl, rfl, fun _ h => (nomatch h)⟩, ?_, ?_⟩⟩
      · rintro i d acc k hd ⟨gs, rfl, rfl, hb⟩ _
        rw [List.getElem?_map] at hd
        obtain ⟨c, hc', rfl⟩ := Option.map_eq_some_iff.mp hd
        have fin2 : ∀ z : Int, 0 ≤ z → ∃ gs' : List Int, gs.map D.int ++ [.int z] = gs'.map .int ∧ gs'.length = gs.length + 1 ∧ ∀ x ∈ gs', 0 ≤ x := fun z hz => ⟨gs ++ [z], by rw [List.map_append]; rfl, by simp, fun x hx => by
          rcases List.mem_append.mp hx with h | h
          · exact hb x h
          · simp at h; omega⟩
        refine iteT ⟨_, rfl, ⟨by decide, by decide, by decide⟩, _, rfl, ?_⟩
        by_cases h : ((10 : Int) ^ (18 : Int).toNat ≤ c)
        · rw [decide_eq_true h]
          exact iteT ⟨_, rfl, fin2 c (by have : (0 : Int) ≤ (10 : Int) ^ (18 : Int).toNat := by decide
                                         omega)⟩
        · rw [decide_eq_false h]
          exact iteF (fin2 0 (by decide))
      · rintro acc k ⟨gs, rfl, hg, hb⟩ _
        exact ⟨gs, rfl, by rw [hg, List.length_map]; exact hl, hb⟩
    · rintro ds k ⟨gs, rfl, hg, hb2⟩ g H5 nl
      obtain ⟨vs, hg5, ra5⟩ := nl.vals
      obtain rfl := ra5.ints_v
      have out : ∀ b o, NoTb o → H4 b = some o → H5 b = some o := fun b o n e => (wo_ne (nl.sub b o (wo_of (by simp [Ml]) e n))).2
      have p5 := out _ _ (by intro _ z; cases z) p4
      have c5 := out _ _ (by intro _ z; cases z) c4
      have ngp : p ≠ g := fun z => by rw [← z, p5] at hg5; cases hg5
      refine ⟨_, rfl, p, _, rfl, DPut.k (k := Sum.inr "great") p5 (by show 3 < sizeLine; decide), ?_⟩
      have mk2 : putK [((Sum.inr "cells" : Key), V.ref pc), (Sum.inr "great", .ref q), (Sum.inr "spot", .int 0)] (Sum.inr "great") (.ref g) = [((Sum.inr "cells" : Key), V.ref pc), (Sum.inr "great", .ref g), (Sum.inr "spot", .int 0)] := by rfl
      rw [mk2]
      --show tRet (tVar 1) _ _ (upd H5 p (.dK [((Sum.inr "cells" : Key), V.ref pc), (Sum.inr "great", .ref g), (Sum.inr "spot", .int 0)]))
      refine ⟨_, rfl, fin ⟨p, pc, g, []⟩ _ cs gs ?_ ⟨upd_same, by rw [upd_ne npc]; exact c5, by rw [upd_ne (Ne.symm ngp)]; exact hg5, hc, hb, hg, hb2⟩⟩
      exact t4.trans (nl.rep.tb.trans (.at_ p5))
end
end T7
namespace BW
open PySem L2 DL
section
variable {P : Program} {w : World} {K : PySem.W.Frag} {mg : PySem.Str → Option Value} {base : Heap}
theorem ok__law_tableS {f : Addr} {fd : FuncData} (F : Fun K "_law_table" "_law_table" s__law_table f fd) (g_range : mg "range" = none) (g_len : mg "len" = none) (c__law_draw : CalD P w K mg base 2 "_law_draw" true sp__law_draw) : FnOk P w K mg base CX0 3 f fd ["m", "many", "some"] (spD K true sp__law_tableS) := by
  refine F.ok sc__law_table (fun vs H Q E h => ?_) (fun cdv A outer s H vs Q E hr h => ?_)
  · obtain ⟨M, X0, k, ds, ws, R, ⟨m, _, rfl⟩, a, ⟨n, zs, rfl, _⟩, _⟩ := h
    have := a.args.len
    rw [List.length_cons, this]
    rfl
  · obtain ⟨M, X0, k, ds, ws, R, ⟨m, rfl, rfl⟩, ⟨xm, xs, hm, ar, xt⟩, ⟨n, zs, rfl, n1, n6, zne, zl, zal, hk, hR⟩, fin⟩ := h
    obtain ⟨u2, rfl, ru⟩ : ∃ u2, ws = [V.int n, u2] ∧ Rl K (wo H (Ml (some m) ++ X0)) u2 (.lst (zs.map .int)) := by
      cases ar with
      | cons h1 h2 =>
        cases h2 with
        | cons h3 h4 => cases h4; cases h1.intE; exact ⟨_, rfl, h3⟩
    clear ar
    refine ⟨_, pss_cons (ps_setLc (i := 3) (own := [("k", 7)]) rfl sc__law_table.nd rfl rfl (sw_true rfl rfl rfl (by decide +kernel)) (pi_range1 rfl g_range (pa_cons (pv 1) pa_nil) rfl) (blkOk_by (N := ["m", "many", "some", "rows", "one", "other", "bond_so", "k"]) (sc := defScope s__law_table) (by decide +kernel)) (fun _ _ _ _ _ => pg_name (i := 7) sc__law_table.nd rfl (.inl rfl)) (fun _ _ _ _ _ => pts_nil) (fun _ _ _ _ _ => pe_op op_rep (pe_lst (pa_cons pe_int pa_nil)) (pv 1)))
    (pss_cons (ps_for PassesOwn.never rfl (pi_range1 rfl g_range (pa_cons (pv 1) pa_nil) rfl) (pg_name (i := 4) sc__law_table.nd rfl (.inl rfl))
      (pss_one (ps_for PassesOwn.never rfl (pi_range1 rfl g_range (pa_cons (pv 4) pa_nil) rfl) (pg_name (i := 5) sc__law_table.nd rfl (.inl rfl))
        (pss_cons (ps_set (i := 6) sc__law_table.nd rfl (.inl rfl) (PE.exE (K := K) (t := t_k2) fun c hc => pd_ixN hc 2 (pd_callM hc c__law_draw hr (by decide) 0 (pad_cons (pd_lenN hc g_len 2) pad_nil))))
        (pss_cons (ps_asg (pv 6) (pg_sub (pe_ix ix_list (pv 3) (pv 4) (fun _ _ => rfl)) (pv 5) set_list))
        (pss_one (ps_asg (pv 6) (pg_sub (pe_ix ix_list (pv 3) (pv 5) (fun _ _ => rfl)) (pv 4) set_list))))))))
    (pss_one (ps_ret (pv 3)))), ?_⟩
    have xs1 : ∀ a ∈ Ml (some m) ++ X0, H a ≠ none := fun a ha => (List.mem_append.mp ha).elim (hm.there a) (xs a)
    have mlH : ∀ a, H a = none → a ∉ Ml (some m) := fun a ha z => hm.there a z ha
    show tSeq (tAsg (tLc (iRng1 (tCons (tVar 1) tNil)) (gName 7) tYes tOnes [7]) (gName 3)) _ _ (L2.start ["m", "many", "some", "rows", "one", "other", "bond_so", "k"] [V.ref m.pm, V.int n, u2]) H
    refine seqAsg ?_
    refine nest_tab2 xs1 n6 rfl fun p qs H2 kp hp0 hq0 mx => ?_
    have mp := mlH p hp0
    have mq : ∀ q ∈ qs, q ∉ Ml (some m) := fun q h => mlH q (hq0 q h)
    have kp2 : Keep (some m) X0 H H2 := ⟨fun a o _ e t => kp.at (by simp [Ml]) e t, kp.tb, fun a ha => kp.old a (List.mem_append_right _ ha)⟩
    have hm2 : MAt (some m) H2 k := hm.eq (fun a ha _ => kp.old a (List.mem_append_left _ ha)) kp.tb
    have s9 : S9 m n u2 p ((L2.start ["m", "many", "some", "rows", "one", "other", "bond_so", "k"] [V.ref m.pm, V.int n, u2]).set 3 (some (V.ref p))) := ⟨rfl, rfl, rfl, rfl, rfl⟩
    have mxK : ∀ {H' H'' : Hp} {g : Nat → Nat → Int}, Mx H' p qs (fm n g) → Keep (some m) X0 H' H'' → Mx H'' p qs (fm n g) := fun {H' H'' g} x kk => ⟨kk.at mp x.top, x.len, fun i q r h1 h2 => kk.at (mq q (List.mem_of_getElem? h1)) (x.row i q r h1 h2), x.nd, x.out⟩
    have xsK : ∀ {H' : Hp}, Keep (some m) X0 H H' → ∀ a ∈ X0, H' a ≠ none := fun {H'} k a ha => by rw [k.old a ha]; exact xs a ha
    have xtK : ∀ {H' : Hp}, Keep (some m) X0 H H' → ∀ a ∈ X0, ∀ ps, H' a ≠ some (.tbl ps) := fun {H'} k a ha => by rw [k.old a ha]; exact xt a ha
    have ruK : ∀ {H' : Hp} {k' : Nat}, Keep (some m) X0 H H' → MAt (some m) H' k' → Rl K (wo H' (Ml (some m) ++ X0)) u2 (.lst (zs.map .int)) := fun {H' k'} kk mm => ru.mono (kk.aft (K := K) mm).1
    refine ⟨_, s9.e1, n, rfl, by omega, by omega, ?_⟩
    rw [Int.toNat_natCast]
    refine ⟨fun i mm σ' H' => mm = n - i ∧ i ≤ n ∧ S9 m n u2 p σ' ∧ ∃ (g : Nat → Nat → Int) (k' : Nat), Gq g i 0 ∧ k ≤ k' ∧ k' ≤ k + 6 * i ∧ Keep (some m) X0 H H' ∧ MAt (some m) H' k' ∧ Mx H' p qs (fm n g), ⟨n, rfl, Nat.zero_le _, s9, _, k, gq0, Nat.le_refl _, Nat.le_refl _, kp2, hm2, mx⟩, ?_⟩
    rintro i mm σ' H' ⟨rfl, hi, s9', g, k', gg, ka, kb, kp', hm', mx'⟩
    by_cases hlt : i < n
    · refine .inr ⟨hlt, fun σ2 H2 => S9 m n u2 p σ2 ∧ ∃ (g : Nat → Nat → Int) (k' : Nat), Gq g (i + 1) 0 ∧ k ≤ k' ∧ k' ≤ k + 6 * (i + 1) ∧ Keep (some m) X0 H H2 ∧ MAt (some m) H2 k' ∧ Mx H2 p qs (fm n g), fun σ2 H2 h => ⟨n - (i + 1), by omega, rfl, hlt, h⟩, ?_⟩
      rintro x H'' ⟨rfl, rfl⟩
      have s4 := s9'.set (i := 4) (by decide) (some (V.int (0 + (i : Int))))
      have t4 : (σ'.set 4 (some (V.int (0 + (i : Int)))))[4]? = some (some (V.int (0 + (i : Int)))) := List.getElem?_set_self (by rw [s9'.len]; decide)
      refine ⟨_, t4, 0 + (i : Int), rfl, by omega, by omega, ?_⟩
      have en : (0 + (i : Int)).toNat = i := by omega
      rw [en]
      refine ⟨fun j mm σ' H' => mm = i - j ∧ j ≤ i ∧ S9 m n u2 p σ' ∧ σ'[4]? = some (some (V.int (0 + (i : Int)))) ∧ ∃ (g : Nat → Nat → Int) (k' : Nat), Gq g i j ∧ k ≤ k' ∧ k' ≤ k + 6 * i + j ∧ Keep (some m) X0 H H' ∧ MAt (some m) H' k' ∧ Mx H' p qs (fm n g), ⟨i, rfl, Nat.zero_le _, s4, t4, g, k', gg, ka, by omega, kp', hm', mx'⟩, ?_⟩
      clear s4 t4 gg ka kb kp' hm' mx' g k'
      rintro j mm σ' H' ⟨rfl, hj, s9', t4, g, k', gg, ka, kb, kp', hm', mx'⟩
      by_cases hjt : j < i
      · refine .inr ⟨hjt, fun σ2 H2 => S9 m n u2 p σ2 ∧ σ2[4]? = some (some (V.int (0 + (i : Int)))) ∧ ∃ (g : Nat → Nat → Int) (k' : Nat), Gq g i (j + 1) ∧ k ≤ k' ∧ k' ≤ k + 6 * i + (j + 1) ∧ Keep (some m) X0 H H2 ∧ MAt (some m) H2 k' ∧ Mx H2 p qs (fm n g), fun σ2 H2 h => ⟨i - (j + 1), by omega, rfl, hjt, h⟩, ?_⟩
        rintro x H'' ⟨rfl, rfl⟩
        have s5 := s9'.set (i := 5) (by decide) (some (V.int (0 + (j : Int))))
        have t5 : (σ'.set 5 (some (V.int (0 + (j : Int)))))[5]? = some (some (V.int (0 + (j : Int)))) := List.getElem?_set_self (by rw [s9'.len]; decide)
        have u4 : (σ'.set 5 (some (V.int (0 + (j : Int)))))[4]? = some (some (V.int (0 + (i : Int)))) := by rw [List.getElem?_set_ne (by decide)]; exact t4
        refine seqAsg (le9 xm (xsK kp') (xtK kp') s5 (ruK kp' hm') hm' (t := t_k2) (R := fun d kz => k' ≤ kz ∧ kz ≤ k' + 1 ∧ ∃ v : Int, d = .int v ∧ AL v) ?_ fun d kz hd u Hc kc mc rv => ?_)
        · have ll : (zs.map D.int).length = zs.length := List.length_map ..
          have lp : 0 < zs.length := List.length_pos_iff.mpr zne
          refine ⟨_, rfl, rfl, _, rfl, _, rfl, by rw [ll]; omega, by rw [ll]; omega, by show k' < _; omega, fun z z0 z1 => ?_⟩
          rw [ll] at z1
          obtain ⟨b, rfl⟩ : ∃ b : Nat, z = (b : Int) := ⟨z.toNat, by omega⟩
          have hb : b < zs.length := by omega
          exact ⟨_, .int _, rfl, atM (xs := zs) (f := D.int) 0 hb, by show k' ≤ k' + 1; omega, by show k' + 1 ≤ _; omega, _, rfl, zal _ (List.mem_of_getElem? (getD_get (d := 0) hb))⟩
        · obtain ⟨kz1, kz2, v, rfl, hv⟩ := hd
          cases rv.intE
          have s6 := s5.set (i := 6) (by decide) (some (V.int v))
          have xc := mxK mx' kc
          have zk := kp'.trans kc
          refine st_two (K := K) (a := i) (b := j) (x := 0 + (i : Int)) (y := 0 + (j : Int)) (by omega) (by omega) xc hlt (by omega) (by omega) s6.e3 (by rw [List.getElem?_set_ne (by decide)]; exact u4) (by rw [List.getElem?_set_ne (by decide)]; exact t5) (List.getElem?_set_self (by rw [s5.len]; decide)) fun H9 kp9 tb9 mx9 => ?_
          refine ⟨s6, by rw [List.getElem?_set_ne (by decide)]; exact u4, _, kz, gg.sw hjt hv, by omega, by omega, ⟨fun a o ha e t => kp9 a o (fun z => by have := hq0 a z; rw [e] at this; cases this) (zk.ob a o ha e t), zk.tb.trans tb9, fun a ha => ?_⟩, mc.eq (fun a ha hn => ?_) tb9, mx9⟩
          · cases e : Hc a with
            | none => rw [zk.old a ha] at e; exact absurd e (xs a ha)
            | some o => exact (kp9 a o (fun z => xs a ha (hq0 a z)) e).trans (e.symm.trans (zk.old a ha))
          · cases e : Hc a with
            | none => exact absurd e hn
            | some o => exact kp9 a o (fun z => mq a z ha) e
      · refine .inl ⟨by show i ≤ j; omega, ?_⟩
        have e : j = i := by omega
        subst e
        exact ⟨s9', g, k', gg.next, ka, by omega, kp', hm', mx'⟩
    · refine .inl ⟨by show n ≤ i; omega, ?_⟩
      have e : i = n := by omega
      subst e
      refine ⟨_, s9'.e3, ?_⟩
      have hidN : ∀ a, H a = none → a ∉ Ml (some m) ++ X0 := fun a ha z => by
        rcases List.mem_append.mp z with z | z
        · exact mlH a ha z
        · exact xs a z ha
      have rlM := mx'.rl (K := K) (hidN p hp0) fun q hq => hidN q (hq0 q hq)
      exact fin (lM (fm i g)) k' (hR (fm i g) k' (tab_gq n1 n6 gg) (fm_len _ _) (by omega) (by omega)) _ _ (kp'.aft hm') rlM
end
end BW
namespace BW
open PySem L2 DL
mutual
def D.noIns : D → Bool
  | .lst xs => noInsA xs
  | .tup xs => noInsA xs
  | .ins _ _ _ => false
  | .exc _ _ _ => false
  | .non => true
  | .bl _ => true
  | .int _ => true
  | .str _ => true
  | .dic => true
def noInsA : List D → Bool
  | [] => true
  | d :: r => D.noIns d && noInsA r
end
theorem sqT_off {K : PySem.W.Frag} {A : Hp} {x C dx a : Addr} {fs : List (PySem.Str × V)} {vs : List V} (hx : A x = some (.ins C dx fs)) (h : SqT K A a vs) : SqT K (wo A [x]) a vs := by
  rcases h with h | h
  · refine .inl ?_
    rcases h with h | ⟨o, h⟩
    · exact .inl (wo_of (fun z => by simp at z; subst z; rw [hx] at h; cases h) h)
    · exact .inr ⟨o, wo_of (fun z => by simp at z; subst z; rw [hx] at h; cases h) h⟩
  · exact .inr h
mutual
theorem rl_off {K : PySem.W.Frag} {A : Hp} {x C dx : Addr} {fs : List (PySem.Str × V)} (hx : A x = some (.ins C dx fs)) : ∀ {v : V} {d : D}, Rl K A v d → D.noIns d = true → Rl K (wo A [x]) v d
  | _, _, .non, _ => .non
  | _, _, .bl b, _ => .bl b
  | _, _, .int i, _ => .int i
  | _, _, .str s, _ => .str s
  | _, _, .lst h r, n => .lst (wo_of (fun z => by simp at z; subst z; rw [hx] at h; cases h) h) (rlA_off hx r n)
  | _, _, .tup h r, n => .tup (sqT_off hx h) (rlA_off hx r n)
  | _, _, .dic h, _ => .dic (wo_of (fun z => by simp at z; subst z; rw [hx] at h; cases h) h)
  | _, _, .ins _ _ _, n => by cases n
  | _, _, .exc _ _ _ _, n => by cases n
theorem rlA_off {K : PySem.W.Frag} {A : Hp} {x C dx : Addr} {fs : List (PySem.Str × V)} (hx : A x = some (.ins C dx fs)) : ∀ {vs : List V} {ds : List D}, RlA K A vs ds → noInsA ds = true → RlA K (wo A [x]) vs ds
  | _, _, .nil, _ => .nil
  | _, _, .cons h r, n => .cons (rl_off hx h (Bool.and_eq_true_iff.mp n).1) (rlA_off hx r (Bool.and_eq_true_iff.mp n).2)
end
theorem noIns_ints : ∀ ns : List Int, noInsA (ns.map D.int) = true
  | [] => rfl
  | _ :: r => noIns_ints r
theorem noIns_tM (T : Mat) : D.noIns (tM T) = true := by
  show noInsA (T.map tI) = true
  induction T with
  | nil => rfl
  | cons r T ih =>
    show (noInsA (r.map D.int) && noInsA (T.map tI)) = true
    rw [noIns_ints, ih]
    rfl
abbrev s_init : Stmt := memS 21 0
abbrev s_len : Stmt := memS 21 1
theorem sc_init : FnScope ["self", "rows", "row", "one"] ["self", "rows"] (defScope s_init) := ⟨rfl, rfl, rfl, by decide +kernel, rfl, by decide +kernel, by decide +kernel⟩
theorem sc_len : FnScope ["self"] ["self"] (defScope s_len) := ⟨rfl, rfl, rfl, by decide +kernel, rfl, by decide +kernel, by decide +kernel⟩
section
variable {P : Program} {w : World} {K : PySem.W.Frag} {mg : PySem.Str → Option Value} {base : Heap} {BC : Addr}
theorem ok_len {f : Addr} {fd : FuncData} (F : Fun K "__len__" "Bonds.__len__" s_len f fd) (g_len : mg "len" = none) (g_Bonds : Cls K BC) (g_Bonds_table : NoAttr K BC "table") : FnOk P w K mg base CX0 1 f fd ["self"] (spD K false (sp_len_Bonds BC)) :=
  okD F sc_len [] (fun ds k R ⟨T, h, _⟩ => by rw [h]; rfl) ⟨dRet (dLen (dFld BC "table" (dVar 0))), fun cdv A outer s H E M X0 hr => (psd_one (psd_ret (pd_len rfl g_len (pd_fld rfl g_Bonds g_Bonds_table (pd_var 0))))), fun X ds k R ⟨T, h1, h2, h3⟩ => by
    subst h1
    intro X
    refine ⟨_, rfl, _, _, tM T, rfl, rfl, _, rfl, ?_⟩
    rw [List.length_map]
    exact h3⟩
theorem ok_init {f : Addr} {fd : FuncData} (F : Fun K "__init__" "Bonds.__init__" s_init f fd) (g_tuple : mg "tuple" = none) (g_range : mg "range" = none) (g_len : mg "len" = none) (c_check_table : CalD P w K mg base 3 "check_table" false sp_check_table) (c_weights_from : CalD P w K mg base 2 "weights_from" false sp_weights_from) (g_Bonds : Cls K BC) (g_Bonds_table : NoAttr K BC "table") (g_Bonds_weights : NoAttr K BC "weights") :
    FnOk P w K mg base CX0 4 f fd ["self", "rows"] (spI K BC (sp_Bonds BC)) := by
  refine F.ok sc_init (fun vs H Q E h => ?_) (fun cdv A outer s H vs Q E hr h => ?_)
  · obtain ⟨X0, x, dx, ds, ws, R, rfl, h1, h2, h3, h4, h4t, h5, h6, ra, ⟨T, rfl, _⟩, _⟩ := h
    have := ra.len
    rw [List.length_cons, this]
    rfl
  · obtain ⟨X0, x, dx, ds, ws, R, rfl, hx, hdx, ne, xs, xt, nx, ndx, ra, ⟨T, rfl, ht, hR⟩, fin⟩ := h
    obtain ⟨v, rfl, rv⟩ : ∃ v, ws = [v] ∧ Rl K (wo H (x :: X0)) v (lM T) := by
      cases ra with
      | cons a b => cases b; exact ⟨_, rfl, a⟩
    refine ⟨_, pss_cons (ps_expr (PE.exE (K := K) (t := dCall sp_check_table (dCons (dVar 1) dNil)) fun c hc => pd_call hc c_check_table hr (by decide) (pad_cons (pd_var 1) pad_nil)))
      (pss_cons (ps_fld (pv 0) (PE.exE (K := K) (t := (dTupOf (dFr (dLc (iLst (dVar 1)) (dgN 2) dY (dTupN 2) [2])))) fun c hc => (pd_tupOf hc g_tuple (pd_fr (pdf_lc (own := [("row", 2)]) rfl sc_init.nd (pid_list hc (pd_var 1)) (blkOk_by (N := ["self", "rows", "row", "one"]) (sc := defScope s_init) (by decide +kernel)) (fun _ _ _ _ _ => (pgd_name 2 sc_init.nd)) (fun _ _ _ _ _ => pts_none) (fun _ _ _ _ _ => (pd_tupN hc g_tuple 2)))))) rfl)
      (pss_one (ps_fld (pv 0) (PE.exE (K := K) (t := (dTupOf (dFr (dLc (iR2 (dC (.int 1)) (dOp oAdd (dLenN 1) (dC (.int 1)))) (dgN 3) dY (dCall sp_weights_from (dCons (dFld BC "table" (dVar 0)) (dCons (dVar 3) dNil))) [3])))) fun c hc => (pd_tupOf hc g_tuple (pd_fr (pdf_lc (own := [("one", 3)]) rfl sc_init.nd (pid_r2 g_range pd_int (pd_add hc (pd_lenN hc g_len 1) pd_int)) (blkOk_by (N := ["self", "rows", "row", "one"]) (sc := defScope s_init) (by decide +kernel)) (fun _ _ _ _ _ => (pgd_name 3 sc_init.nd)) (fun _ _ _ _ _ => pts_none) (fun _ _ _ _ _ => (pd_call hc c_weights_from hr (by decide) (pad_cons (pd_fld hc g_Bonds g_Bonds_table (pd_var 0)) (pad_cons (pd_var 3) pad_nil)))))))) rfl))), ?_⟩
    have hT := ht.hi
    -- a state whose only data is the table
    have repT : ∀ (Y : List Addr) (G : Hp) (d0 : Sl), (∀ a ∈ Y, G a ≠ none) → (∀ a ∈ Y, ∀ ps, G a ≠ some (.tbl ps)) → SlOk ⟨K, none, Y, G, []⟩ Y G (some (some (V.ref x))) d0 → (∀ p ds, d0 ≠ .own p ds) → Rl K (wo G Y) v (lM T) → Rep ⟨K, none, Y, G, []⟩ ⟨Y, [d0, .dat (lM T), .no, .no], 0⟩ (L2.start ["self", "rows", "row", "one"] [V.ref x, v]) G := by
      intro Y G d0 hY hT0 h0 hn hv
      refine ⟨Sub.refl _, fun _ _ _ _ => rfl, fun _ h => h, fun _ _ => by simp [Ml], hY, trivial, fun i z e => ?_, fun i j p q ds es e _ _ => ?_, rfl, .refl, hT0⟩
      · match i, e with
        | 0, e => cases e; exact h0
        | 1, e => cases e; exact ⟨v, rfl, hv⟩
        | 2, e => cases e; trivial
        | 3, e => cases e; trivial
      · match i, e with
        | 0, e => cases e; exact absurd rfl (hn _ _)
        | 1, e => cases e
        | 2, e => cases e
        | 3, e => cases e
    have xs1 : ∀ a ∈ x :: X0, H a ≠ none := fun a h => by
      rcases List.mem_cons.mp h with rfl | h
      · rw [hx]; simp
      · exact xs a h
    have xt1 : ∀ a ∈ x :: X0, ∀ ps, H a ≠ some (.tbl ps) := fun a h ps => by
      rcases List.mem_cons.mp h with rfl | h
      · rw [hx]; intro e; cases e
      · exact xt a h ps
    refine ⟨⟨K, none, x :: X0, H, []⟩, rfl, ⟨x :: X0, [.no, .dat (lM T), .no, .no], 0⟩, fun _ _ => True, repT _ H .no xs1 xt1 trivial (fun _ _ z => nomatch z) rv, ?_, ?_⟩
    · exact ⟨_, rfl, T, rfl, ht, trivial⟩
    rintro _ k0 _ _ H1 r1 a1 _
    have x1 : H1 x = some (.ins BC dx []) := by rw [a1.own x List.mem_cons_self]; exact hx
    have s01 : Sub (wo H (x :: X0)) (wo H1 (x :: X0)) := a1.sub
    have o1 : ∀ a ∈ X0, H1 a = H a := fun a h => a1.own a (List.mem_cons_of_mem _ h)
    have t01 : TbK H H1 := r1.tb
    clear r1 a1
    have rv1 := rv.mono s01
    refine ⟨⟨K, none, x :: X0, H1, []⟩, rfl, ⟨x :: X0, [.no, .dat (lM T), .no, .no], 0⟩, fun d _ => d = tM T, repT _ H1 .no (fun a h => by
      rcases List.mem_cons.mp h with rfl | h
      · rw [x1]; simp
      · rw [o1 a h]; exact xs a h) (fun a h ps => by
      rcases List.mem_cons.mp h with rfl | h
      · rw [x1]; intro e; cases e
      · rw [o1 a h]; exact xt a h ps) trivial (fun _ _ z => nomatch z) rv1, ?_, ?_⟩
    · refine ⟨_, rfl, _, rfl, by rw [List.length_map]; exact Nat.le_trans hT (by decide), fun p hp => ⟨fun j acc _ => acc = (T.take j).map tI, rfl, ?_, ?_⟩⟩
      · rintro j d acc k' hd rfl _
        rw [List.getElem?_map] at hd
        obtain ⟨r, hr, rfl⟩ := Option.map_eq_some_iff.mp hd
        refine iteT ⟨_, rfl, ?_⟩
        show _ = (T.take (j + 1)).map tI
        rw [List.take_succ, hr, List.map_append]
        rfl
      · rintro acc k' rfl _
        refine ⟨_, rfl, ?_⟩
        rw [List.length_map, List.take_length]
    rintro _ k1 rfl v1 H2 r2 a2 rt
    have x2 : H2 x = some (.ins BC dx []) := by rw [a2.own x List.mem_cons_self]; exact x1
    have s12 : Sub (wo H1 (x :: X0)) (wo H2 (x :: X0)) := a2.sub
    have o2 : ∀ a ∈ X0, H2 a = H1 a := fun a h => a2.own a (List.mem_cons_of_mem _ h)
    have rt : Rl K (wo H2 (x :: X0)) v1 (tM T) := rt
    have t12 : TbK H1 H2 := r2.tb
    clear r2 a2
    refine ⟨_, rfl, x, BC, dx, [], rfl, x2, g_Bonds, g_Bonds_table, by decide, ?_⟩
    -- the first field stands
    have s23 : Sub (wo H2 (x :: X0)) (wo (upd H2 x (.ins BC dx [("table", v1)])) X0) := fun a o e => by
      obtain ⟨n, e⟩ := wo_ne e
      exact wo_of (fun z => n (List.mem_cons_of_mem _ z)) (by rw [upd_ne (fun z => n (by rw [z]; exact List.mem_cons_self))]; exact e)
    have x3 : (upd H2 x (.ins BC dx [(("table" : PySem.Str), v1)])) x = some (.ins BC dx [("table", v1)]) := upd_same
    have o3 : ∀ a ∈ X0, (upd H2 x (.ins BC dx [(("table" : PySem.Str), v1)])) a = H a := fun a h => by rw [upd_ne (fun z => nx (by rw [← z]; exact h)), o2 a h, o1 a h]
    have rt3 := rt.mono s23
    have rv3 := (rv1.mono s12).mono s23
    have hY3 : ∀ a ∈ X0, (upd H2 x (.ins BC dx [(("table" : PySem.Str), v1)])) a ≠ none := fun a h => by rw [o3 a h]; exact xs a h
    refine ⟨⟨K, none, X0, upd H2 x (.ins BC dx [("table", v1)]), []⟩, rfl, ⟨X0, [.dat (.ins BC ["table"] [tM T]), .dat (lM T), .no, .no], 0⟩, fun d _ => d = tM (wtM T), repT _ _ (.dat (.ins BC ["table"] [tM T])) hY3 (fun a h => by rw [o3 a h]; exact xt a h) ⟨_, rfl, .ins (ns := ["table"]) (vs := [v1]) (wo_of (by simpa [Ml] using nx) x3) rfl (.cons rt3 .nil)⟩ (fun _ _ z => nomatch z) rv3, ?_, ?_⟩
    · refine ⟨_, rfl, 1, _, rfl, rfl, ⟨by omega, by omega, ?_, ?_⟩, ?_⟩
      · rw [List.length_map]; omega
      · rw [List.length_map]; omega
      have en : (((T.map lI).length : Int) + 1 - 1).toNat = T.length := by rw [List.length_map]; omega
      rw [en]
      refine ⟨by rw [rngD_len]; exact Nat.le_trans hT (by decide), fun p hp => ⟨fun j acc _ => acc = (List.range j).map fun i => tI (wtr T i), rfl, ?_, ?_⟩⟩
      · rintro j d acc k' hd rfl _
        obtain ⟨hj, rfl⟩ := rngD_at hd
        refine iteT ⟨_, rfl, _, _, tM T, rfl, rfl, _, rfl, T, _, rfl, ht, by omega, by omega, ?_⟩
        have e : ix (1 + (j : Int)) = j := by unfold ix; omega
        rw [e]
        show _ = (List.range (j + 1)).map _
        rw [range_step]
      · rintro acc k' rfl _
        refine ⟨_, rfl, ?_⟩
        rw [rngD_len]
        show D.tup _ = D.tup ((wtM T).map tI)
        unfold wtM
        rw [List.map_map]
        rfl
    rintro _ k2 rfl v2 H3 r3 a3 rw2
    have s34 : Sub (wo (upd H2 x (.ins BC dx [(("table" : PySem.Str), v1)])) X0) (wo H3 X0) := a3.sub
    have o4 : ∀ a ∈ X0, H3 a = H a := fun a h => (a3.own a h).trans (o3 a h)
    have rw2 : Rl K (wo H3 X0) v2 (tM (wtM T)) := rw2
    have t34 : TbK (upd H2 x (.ins BC dx [("table", v1)])) H3 := r3.tb
    clear r3 a3
    have x4 : (wo H3 X0) x = some (.ins BC dx [("table", v1)]) := s34 x _ (wo_of nx x3)
    have rt4 := rl_off x4 (rt3.mono s34) (noIns_tM T)
    have rw4 := rl_off x4 rw2 (noIns_tM _)
    refine ⟨_, rfl, x, BC, dx, [("table", v1)], rfl, (wo_ne x4).2, g_Bonds, g_Bonds_weights, by show 1 < 1000; decide, ?_⟩
    have s45 : Sub (wo (wo H3 X0) [x]) (wo (upd H3 x (.ins BC dx [(("table" : PySem.Str), v1), ("weights", v2)])) X0) := fun a o e => by
      obtain ⟨n, e⟩ := wo_ne e
      obtain ⟨n2, e⟩ := wo_ne e
      exact wo_of n2 (by rw [upd_ne (fun z => n (by rw [z]; exact List.mem_cons_self))]; exact e)
    refine fin (bnd BC T) 0 hR (upd H3 x (.ins BC dx [(("table" : PySem.Str), v1), ("weights", v2)])) (fun a o e => ?_) (fun a h => by rw [upd_ne (fun z => nx (by rw [← z]; exact h)), o4 a h]) (t01.trans (t12.trans ((TbK.at_ x2).trans (t34.trans (TbK.at_ (wo_ne x4).2))))) ?_
    · obtain ⟨n, _⟩ := wo_ne e
      have e4 := s34 a o (s23 a o (s12 a o (s01 a o e)))
      obtain ⟨n2, e4⟩ := wo_ne e4
      exact wo_of n2 (by rw [upd_ne (fun z => n (by rw [z]; exact List.mem_cons_self))]; exact e4)
    · exact .ins (ns := ["table", "weights"]) (vs := [v1, v2]) (wo_of nx upd_same) rfl (.cons (rt4.mono s45) (.cons (rw4.mono s45) .nil))
end
end BW
namespace BW
open PySem L2 DL
section
variable {P : Program} {w : World} {K : PySem.W.Frag} {mg : PySem.Str → Option Value} {base : Heap} {BC : Addr}
abbrev s_bond : Stmt := memS 21 3
theorem sc_bond : FnScope ["self", "one", "other"] ["self", "one", "other"] (defScope s_bond) := ⟨rfl, rfl, rfl, by decide +kernel, rfl, by decide +kernel, by decide +kernel⟩
theorem ok_bond {f : Addr} {fd : FuncData} (F : Fun K "bond" "Bonds.bond" s_bond f fd) (g_len : mg "len" = none) (c_check_letters : CalD P w K mg base 3 "check_letters" false sp_check_letters) (g_Bonds : Cls K BC) (g_Bonds_table : NoAttr K BC "table") (g_Bonds_weights : NoAttr K BC "weights") : FnOk P w K mg base CX0 4 f fd ["self", "one", "other"] (spD K false (sp_bond BC)) :=
  okD F sc_bond [] (fun ds k R h => by obtain ⟨_, _, _, rfl, _⟩ := h; rfl) ⟨t_bond BC, fun cdv A outer s H E M X0 hr => (psd_cons (psd_expr (pd_call rfl c_check_letters hr (by decide) (pad_cons (pd_len rfl g_len (pd_fld rfl g_Bonds g_Bonds_table (pd_var 0))) (pad_cons (pd_var 1) (pad_cons (pd_var 2) pad_nil)))))
  (psd_one (psd_ret (pd_ix rfl (pd_ix rfl (pd_fld rfl g_Bonds g_Bonds_table (pd_var 0)) (pd_sub (pd_var 1) pd_int)) (pd_sub (pd_var 2) pd_int))))), r_bond BC⟩
end
end BW
namespace BW
open PySem L2 DL
theorem sc_fewer_first : FnScope ["tuples"] ["tuples"] (defScope s_fewer_first) := ⟨rfl, rfl, rfl, by decide +kernel, rfl, by decide +kernel, by decide +kernel⟩
theorem w_fewer_first {P : Program} {w : World} {K : PySem.W.Frag} {mg : PySem.Str → Option Value} {base : Heap} {BC : Addr} {T : List (Addr × PySem.Str)} (g_sorted : mg "sorted" = none) (g_len : mg "len" = none) (f : Addr) (cdv : Value) (A : Around) (outer : List Env) (s : Shared) (H : Hp) (E : XK) {c : C} (hc : c.K = K) {cc Pt : Addr} (fr : LwC c T) (it : InT T Pt lamQ_fewer_first) (ho : c.ow = []) (TB : LamX.TabB base mg cc Pt) (hcd : cdv = .ref cc)
    (gu : (A.deeper (PyProof.Rows.envOfC "fewer_first" (defScope s_fewer_first) s.heap.objs.size f cdv)).guards = some []) (hr : Room 3 (A.deeper (PyProof.Rows.envOfC "fewer_first" (defScope s_fewer_first) s.heap.objs.size f cdv))) :
    PSs (cxOf CX0 P w K mg base ["tuples"] "fewer_first" (defScope s_fewer_first) f cdv A outer s H E).nox (defBody s_fewer_first) (LS c (t_fewer_first BC K)) :=
  (show PSs (cxOf CX0 P w K mg base ["tuples"] "fewer_first" (defScope s_fewer_first) f cdv A outer s H E).nox (defBody s_fewer_first) (LS c (tA_fewer_first BC K)) from (psd_one (psd_ret (pd_fr (pdf_kf hc fr it TB hcd hr (by decide) g_sorted g_len (pd_var 0))))))
abbrev s_choices_of : Stmt := top 34
theorem sc_choices_of : FnScope ["bonds", "choices", "letter", "choice"] ["bonds"] (defScope s_choices_of) := ⟨rfl, rfl, rfl, by decide +kernel, rfl, by decide +kernel, by decide +kernel⟩
theorem w_choices_of {P : Program} {w : World} {K : PySem.W.Frag} {mg : PySem.Str → Option Value} {base : Heap} {BC : Addr} {T : List (Addr × PySem.Str)} (g_range : mg "range" = none) (g_len : mg "len" = none) (g_tuple : mg "tuple" = none) (c_fewer_first : CalT P w K mg base 4 "fewer_first" T false sp_fewer_first) (c_len_Bonds : LenD P w K mg base 1 BC (sp_len_Bonds BC)) (f : Addr) (cdv : Value) (A : Around) (outer : List Env) (s : Shared) (H : Hp) (E : XK) {c : C} (hc : c.K = K) {cc : Addr} (fr : LwC c T) (ho : c.ow = []) (hcd : cdv = .ref cc)
    (gu : (A.deeper (PyProof.Rows.envOfC "choices_of" (defScope s_choices_of) s.heap.objs.size f cdv)).guards = some []) (hr : Room 4 (A.deeper (PyProof.Rows.envOfC "choices_of" (defScope s_choices_of) s.heap.objs.size f cdv))) :
    PSs (cxOf CX0 P w K mg base ["bonds", "choices", "letter", "choice"] "choices_of" (defScope s_choices_of) f cdv A outer s H E).nox (defBody s_choices_of) (LS c (t_choices_of BC K)) :=
  (show PSs (cxOf CX0 P w K mg base ["bonds", "choices", "letter", "choice"] "choices_of" (defScope s_choices_of) f cdv A outer s H E).nox (defBody s_choices_of) (LS c (tA_choices_of BC K)) from (psd_cons (psd_set 1 sc_choices_of.nd (pd_fr (pdf_lst (pad_cons (pd_tup pad_nil) pad_nil))))
  (psd_cons (psd_for PassesOwn.never rfl (pid_r2 g_range pd_int (pd_add hc (pd_lenO hc g_len c_len_Bonds hr (by decide) (pd_var 0)) pd_int)) (pgd_name 2 sc_choices_of.nd) (psd_one (psd_set 1 sc_choices_of.nd (pd_add hc (pd_var 1) (pd_fr (pdf_lc (own := [("choice", 3)]) rfl sc_choices_of.nd (pid_list hc (pd_var 1)) (blkOk_by (N := ["bonds", "choices", "letter", "choice"]) (sc := defScope s_choices_of) (by decide +kernel)) (fun _ _ _ _ _ => (pgd_name 3 sc_choices_of.nd)) (fun _ _ _ _ _ => pts_none) (fun _ _ _ _ _ => (pd_tup (pad_star hc (pd_var 3) (pad_cons (pd_var 2) pad_nil))))))))))
  (psd_one (psd_ret (pd_tupOf hc g_tuple (pd_callGT hc fr c_fewer_first gu hr (by decide) (pad_cons (pd_var 1) pad_nil))))))))
abbrev s_law : Stmt := top 52
theorem sc_law : FnScope ["script", "m", "turn", "many", "table", "bonds", "due", "some", "is_so", "told", "great", "letters", "piece", "word", "one", "other", "letter"] ["script"] (defScope s_law) := ⟨rfl, rfl, rfl, by decide +kernel, rfl, by decide +kernel, by decide +kernel⟩
def exLSs (K : PySem.W.Frag) (T : List (Addr × PySem.Str)) (t : DS) : TS := fun D σ H => ∃ c, c.K = K ∧ LwC c T ∧ c.ow = [] ∧ LS c t D σ H
theorem PSs.exL {X : Cx} {st : List Stmt} {K : PySem.W.Frag} {T : List (Addr × PySem.Str)} {t : DS} (h : ∀ c, c.K = K → LwC c T → c.ow = [] → PSs X st (LS c t)) : PSs X st (exLSs K T t) := ⟨fun pins s σ H Q I ⟨c, hc, fr, ho, q⟩ => (h c hc fr ho).run pins s σ H Q I q⟩
def spLaw (K : PySem.W.Frag) (T : List (Addr × PySem.Str)) : Sp := fun vs H Q _ => ∃ (a : Addr) (ns : List Int), vs = [.ref a] ∧ SqL K H a (ns.map V.int) ∧ ns.length ≤ 63 ∧ (∀ p ∈ T, H p.1 = some (.tbl #[])) ∧ ∀ H', Q (.bl true) H'
section
variable {P : Program} {w : World} {K : PySem.W.Frag} {mg : PySem.Str → Option Value} {base : Heap} {BC NC : Addr} {T : List (Addr × PySem.Str)}
theorem w_law (g_range : mg "range" = none) (g_int : mg "int" = none) (g_tuple : mg "tuple" = none) (g_sorted : mg "sorted" = none) (g_list : mg "list" = none) (c__law_draw : CalD P w K mg base 2 "_law_draw" true sp__law_draw) (c__law_table : CalD P w K mg base 3 "_law_table" true sp__law_tableS) (c_Bonds : MakD P w K mg base 4 "Bonds" BC (sp_Bonds BC)) (c_choices_of : CalT P w K mg base 5 "choices_of" T false (sp_choices_of BC)) (c__law_hangs : CalD P w K mg base 2 "_law_hangs" false sp__law_hangs) (c__law_like : CalG P w K mg base 1 "_law_like" false sp__law_likeA) (c_hangs_together : CalD P w K mg base 6 "hangs_together" false (sp_hangs_together BC)) (c_pieces : CalD P w K mg base 6 "pieces" false (sp_pieces BC)) (c__law_is_in : CalD P w K mg base 1 "_law_is_in" false sp__law_is_in) (c__law_word : CalD P w K mg base 3 "_law_word" true sp__law_wordL) (c_alike : CalD P w K mg base 6 "alike" false (sp_alike BC))  (f : Addr) (cdv : Value) (A : Around) (outer : List Env) (s : Shared) (H : Hp) (E : XK) {c : C} (hc : c.K = K) {cc : Addr} (fr : LwC c T) (ho : c.ow = []) (hcd : cdv = .ref cc)
    (gu : (A.deeper (PyProof.Rows.envOfC "law" (defScope s_law) s.heap.objs.size f cdv)).guards = some []) (hr : Room 6 (A.deeper (PyProof.Rows.envOfC "law" (defScope s_law) s.heap.objs.size f cdv))) :
    PSs (cxOf CX0 P w K mg base ["script", "m", "turn", "many", "table", "bonds", "due", "some", "is_so", "told", "great", "letters", "piece", "word", "one", "other", "letter"] "law" (defScope s_law) f cdv A outer s H E).nox ((defBody s_law).drop 1) (LS c (t_law56 BC K)) :=
  (psd_cons (psd_for PassesOwn.never rfl (pid_r1 g_range pd_int) (pgd_name 2 sc_law.nd) (psd_cons (psd_set 3 sc_law.nd (pd_add hc pd_int (pd_callM hc c__law_draw hr (by decide) 1 (pad_cons pd_int pad_nil))))
  (psd_cons (psd_set 4 sc_law.nd (pd_callM hc c__law_table hr (by decide) 1 (pad_cons (pd_var 3) (pad_cons (pd_fr (pdf_lst (pad_cons pd_int (pad_cons pd_int (pad_cons pd_int (pad_cons pd_int (pad_cons pd_int (pad_cons pd_int pad_nil)))))))) pad_nil))))
  (psd_cons (psd_tar2 hc 5 6 rfl sc_law.nd (pax_dat (pd_make hc c_Bonds hr (by decide) (pad_cons (pd_var 4) pad_nil)) (pax_dat (pd_fr (pdf_lst pad_nil)) pax_nil)))
  (psd_cons (psd_for PassesOwn.never rfl (pid_tup hc (pd_callGT hc fr c_choices_of gu hr (by decide) (pad_cons (pd_var 5) pad_nil))) (pgd_name 7 sc_law.nd) (psd_cons (psd_set 8 sc_law.nd (pd_call hc c__law_hangs hr (by decide) (pad_cons (pd_var 4) (pad_cons (pd_var 7) pad_nil))))
  (psd_cons (psd_if (ptd_not (pt_tru hc (pd_callG hc c__law_like gu hr (by decide) (pad_cons (pd_call hc c_hangs_together hr (by decide) (pad_cons (pd_var 5) (pad_cons (pd_var 7) pad_nil))) (pad_cons (pd_var 8) pad_nil))))) (psd_one (psd_ret pd_bl)) psd_nil)
  (psd_one (psd_set 6 sc_law.nd (pd_add hc (pd_var 6) (pd_mul hc (pd_fr (pdf_lst (pad_cons (pd_var 7) pad_nil))) (pd_intB g_int (pd_var 8)))))))))
  (psd_cons (psd_set 9 sc_law.nd (pd_call hc c_pieces hr (by decide) (pad_cons (pd_var 5) pad_nil)))
  (psd_cons (psd_setLc 10 (own := [("one", 14)]) rfl sc_law.nd (pid_list hc (pd_var 6)) (blkOk_by (N := ["script", "m", "turn", "many", "table", "bonds", "due", "some", "is_so", "told", "great", "letters", "piece", "word", "one", "other", "letter"]) (sc := defScope s_law) (by decide +kernel)) (fun _ _ _ _ _ => (pgd_name 14 sc_law.nd)) (fun _ _ _ _ _ => (ptsd_one (ptd_cmp (OpR.or op_eq (op_eqD hr.units)) (fit_eq hc) (pd_fr (pdf_lc (own := [("other", 15)]) rfl sc_law.nd (pid_list hc (pd_var 6)) (blkOk_by (N := ["script", "m", "turn", "many", "table", "bonds", "due", "some", "is_so", "told", "great", "letters", "piece", "word", "one", "other", "letter"]) (sc := { kind := .function, names := [(".0", .local), ("one", .cell), ("due", .cell)], isGenerator := false, isCoroutine := false }) (by decide +kernel)) (fun _ _ _ _ _ => (pgd_name 15 sc_law.nd)) (fun _ _ _ _ _ => (ptsd_one (PW.pt (pwd_and (ptd_cmp (OpR.or op_ne (op_neD hr.units)) (fit_ne hc) (pd_var 14) (pd_var 15)) (pwd_and1 (pt_tru hc (pd_call hc c__law_is_in hr (by decide) (pad_cons (pd_var 14) (pad_cons (pd_var 15) pad_nil))))))))) (fun _ _ _ _ _ => (pd_var 15)))) (pd_fr (pdf_lst pad_nil))))) (fun _ _ _ _ _ => (pd_var 14)))
  (psd_cons (psd_if (ptd_not (pt_tru hc (pd_callG hc c__law_like gu hr (by decide) (pad_cons (pd_var 9) (pad_cons (pd_tupOf hc g_tuple (pd_fr (pdf_sorted hc hr g_sorted (pd_var 10)))) pad_nil))))) (psd_one (psd_ret pd_bl)) psd_nil)
  (psd_cons (psd_set 11 sc_law.nd (pd_fr (pdf_lst pad_nil)))
  (psd_cons (psd_for PassesOwn.never rfl (pid_tup hc (pd_var 9)) (pgd_name 12 sc_law.nd) (psd_one (psd_set 11 sc_law.nd (pd_add hc (pd_var 11) (pd_fr (pdf_lstN hc g_list 12))))))
  (psd_cons (psd_if (ptd_cmp (OpR.or op_ne (op_neD hr.units)) (fit_ne hc) (pd_fr (pdf_sorted hc hr g_sorted (pd_var 11))) (pd_fr (pdf_lr2 rfl g_list g_range pd_int (pd_add hc (pd_var 3) pd_int)))) (psd_one (psd_ret pd_bl)) psd_nil)
  (psd_cons (psd_set 13 sc_law.nd (pd_callM hc c__law_word hr (by decide) 1 (pad_cons (pd_var 3) (pad_cons pd_int pad_nil))))
  (psd_cons (psd_setLc 14 (own := [("letter", 16)]) rfl sc_law.nd (pid_list hc (pd_var 13)) (blkOk_by (N := ["script", "m", "turn", "many", "table", "bonds", "due", "some", "is_so", "told", "great", "letters", "piece", "word", "one", "other", "letter"]) (sc := defScope s_law) (by decide +kernel)) (fun _ _ _ _ _ => (pgd_name 16 sc_law.nd)) (fun _ _ _ _ _ => (ptsd_one (ptd_cmp op_in_seq (fit_in hc) (pd_var 16) (pd_ixN hc 9 pd_int)))) (fun _ _ _ _ _ => (pd_var 16)))
  (psd_cons (psd_setLc 15 (own := [("letter", 16)]) rfl sc_law.nd (pid_list hc (pd_var 13)) (blkOk_by (N := ["script", "m", "turn", "many", "table", "bonds", "due", "some", "is_so", "told", "great", "letters", "piece", "word", "one", "other", "letter"]) (sc := defScope s_law) (by decide +kernel)) (fun _ _ _ _ _ => (pgd_name 16 sc_law.nd)) (fun _ _ _ _ _ => (ptsd_one (ptd_cmp op_notIn_seq (fit_nin hc) (pd_var 16) (pd_ixN hc 9 pd_int)))) (fun _ _ _ _ _ => (pd_var 16)))
  (psd_one (psd_if (PW.pt (pwd_or (ptd_not (pt_tru hc (pd_call hc c_alike hr (by decide) (pad_cons (pd_var 5) (pad_cons (pd_var 13) (pad_cons (pd_add hc (pd_var 14) (pd_var 15)) pad_nil)))))) (pwd_or1 (ptd_not (pt_tru hc (pd_call hc c_alike hr (by decide) (pad_cons (pd_var 5) (pad_cons (pd_add hc (pd_var 15) (pd_var 14)) (pad_cons (pd_add hc (pd_var 14) (pd_var 15)) pad_nil))))))))) (psd_one (psd_ret pd_bl)) psd_nil))))))))))))))))
  (psd_one (psd_ret (pd_cmp (OpR.or op_eq (op_eqD hr.units)) (fit_eq hc) (pd_call hc c_pieces hr (by decide) (pad_cons (pd_make hc c_Bonds hr (by decide) (pad_cons (pd_fr (pdf_lst (pad_cons (pd_fr (pdf_lst (pad_cons pd_int (pad_cons pd_int (pad_cons pd_int pad_nil))))) (pad_cons (pd_fr (pdf_lst (pad_cons pd_int (pad_cons pd_int (pad_cons pd_int pad_nil))))) (pad_cons (pd_fr (pdf_lst (pad_cons pd_int (pad_cons pd_int (pad_cons pd_int pad_nil))))) pad_nil))))) pad_nil)) pad_nil)) (pd_tup (pad_cons (pd_tup (pad_cons pd_int (pad_cons pd_int pad_nil))) (pad_cons (pd_tup (pad_cons pd_int pad_nil)) pad_nil)))))))
theorem ok_law (g_range : mg "range" = none) (g_int : mg "int" = none) (g_tuple : mg "tuple" = none) (g_sorted : mg "sorted" = none) (g_list : mg "list" = none) (c__law_draw : CalD P w K mg base 2 "_law_draw" true sp__law_draw) (c__law_table : CalD P w K mg base 3 "_law_table" true sp__law_tableS) (c_Bonds : MakD P w K mg base 4 "Bonds" BC (sp_Bonds BC)) (c_choices_of : CalT P w K mg base 5 "choices_of" T false (sp_choices_of BC)) (c__law_hangs : CalD P w K mg base 2 "_law_hangs" false sp__law_hangs) (c__law_like : CalG P w K mg base 1 "_law_like" false sp__law_likeA) (c_hangs_together : CalD P w K mg base 6 "hangs_together" false (sp_hangs_together BC)) (c_pieces : CalD P w K mg base 6 "pieces" false (sp_pieces BC)) (c__law_is_in : CalD P w K mg base 1 "_law_is_in" false sp__law_is_in) (c__law_word : CalD P w K mg base 3 "_law_word" true sp__law_wordL) (c_alike : CalD P w K mg base 6 "alike" false (sp_alike BC))  {fb : Addr} {fd fdb : FuncData} (F : Fun K "law" "law" s_law (He.fAd K ("law", none)) fd) (Gb : FnOk P w K mg base CX0 2 fb fdb ["script"] (T7.spBegun K)) (hmb : mg "_law_begun" = some (.ref fb)) (kpb : PySem.W.keepIn K (.ref fb) = true) (bb : Binds K fdb ["script"] []) :
    L2G.FnG P w K mg base 7 (He.fAd K ("law", none)) fd ["script"] (spLaw K T) := by
  refine L2G.okGT F sc_law (fun vs H Q E h => ?_) (fun cdv A outer s H vs Q E hcd hr gu h => ?_)
  · obtain ⟨a, ns, rfl, _⟩ := h
    rfl
  · obtain ⟨a, ns, rfl, ha, hl, hpt, fin⟩ := h
    refine ⟨_, pss_cons (ps_set (i := 1) sc_law.nd rfl (by first | exact .inl rfl | exact .inr rfl) (pe_call Gb (hr.mono (by decide)) rfl hmb kpb bb .nil pass0 (pa_cons (pv 0) pa_nil))) (PSs.exL (K := K) (T := T) (t := t_law56 BC K) fun c hc fr ho => w_law g_range g_int g_tuple g_sorted g_list c__law_draw c__law_table c_Bonds c_choices_of c__law_hangs c__law_like c_hangs_together c_pieces c__law_is_in c__law_word c_alike _ cdv A outer s H E hc fr ho hcd gu hr), ?_⟩
    refine ⟨_, rfl, a, ns, rfl, ha, hl, fun m H1 cs gs sb hm => ?_⟩
    have tb1 : LamX.Tabs T H1 := sb.tabs _ fun p hp => LamX.TabS.nil (hpt p hp)
    refine ⟨⟨K, some { m with T := T }, [], fun _ => none, []⟩, rfl, ⟨⟨_, rfl, rfl⟩, fun _ _ z => nomatch z⟩, rfl, ⟨[], [.no, .mst, .no, .no, .no, .no, .no, .no, .no, .no, .no, .no, .no, .no, .no, .no, .no], 0⟩, _, Rep.root (rep_of (X0 := []) (M := some { m with T := T }) (fun _ h => (nomatch h)) (fun _ h => (nomatch h)) (fun _ h => (nomatch h)) rfl ⟨cs, gs, 0, ⟨hm.hm, hm.hc, hm.hg, hm.lc, hm.bc, hm.lg, hm.bg⟩, Nat.le_refl _, tb1⟩ (fun i x e => ?_) (fun i p ds e => ?_)) rfl, r_law56 BC K ⟨fun _ => False, fun d _ => d = .bl true, fun _ => False, fun _ => False⟩ (fun _ => rfl), ?_⟩
    · match i, e with
      | 0, e => cases e; trivial
      | 1, e => cases e; exact ⟨_, rfl, rfl⟩
      | 2, e => cases e; trivial
      | 3, e => cases e; trivial
      | 4, e => cases e; trivial
      | 5, e => cases e; trivial
      | 6, e => cases e; trivial
      | 7, e => cases e; trivial
      | 8, e => cases e; trivial
      | 9, e => cases e; trivial
      | 10, e => cases e; trivial
      | 11, e => cases e; trivial
      | 12, e => cases e; trivial
      | 13, e => cases e; trivial
      | 14, e => cases e; trivial
      | 15, e => cases e; trivial
      | 16, e => cases e; trivial
    · have mem := List.mem_of_getElem? e
      simp at mem
    · exact ⟨fun _ _ _ _ _ q => q.elim, fun _ _ _ _ _ q => q.elim, fun _ _ _ _ _ q => q.elim, fun d k v H' fi e r => by
        subst r
        cases e
        exact fin H'⟩
end
end BW
namespace BW
open PySem L2 DL
section
variable {n : Nat} {fa : List He.Fa} {fn : List He.DefD} {ts : List He.Tab} {tf : List He.Defn} {ex : PySem.W.Frag → Bool} {w : World} {h : Heap}
end
theorem obsS_eq {n : Nat} {fa : List He.Fa} {fn : List He.DefD} {ts : List He.Tab} {tf : List He.Defn} {ex : PySem.W.Frag → Bool} {g : Addr → Option Obj} {s : Shared} (h : ∀ a, g a = s.heap.get? a) : obsS n fa fn ts tf ex g = (hookS n fa fn ts tf ex).obs s :=
  congrArg (obsS n fa fn ts tf ex) (funext h)
end BW
namespace BW
open PySem L2 DL
theorem toFun {K : PySem.W.Frag} {x qual : PySem.Str} {st : Stmt} {f : Addr} {fd : FuncData} (F : FunD K x qual (defArgs st) (defBody st) (defScope st) [] [] f fd) : Fun K x qual st f fd := by
  obtain ⟨oc, od, dV, kV, doc, pm, an, cdv, ct, osl, rfl, lk, hcd, hD, hK⟩ := F.ex
  rcases hD with ⟨_, rfl⟩ | ⟨e, _⟩
  · exact ⟨⟨oc, od, kV, doc, pm, an, cdv, ct, osl, rfl, lk, hcd⟩, F.kp⟩
  · exact absurd rfl e
set_option maxHeartbeats 0 in
theorem facts {P : Program} {w : World} {K : PySem.W.Frag} {h : Heap} {mg : PySem.Str → Option Value} {f0 : Addr} (X : K.In h) (G : h.Ns mainGlobals mg) (hfa : mg ("law" : PySem.Str) = some (.ref f0)) (c : He.SaysX fa fn tabL tfL exB w h K) :
    ∃ fd : FuncData, (∀ (s : Shared) (v : Value), BindsTo s fd ⟨[v], []⟩ [("script", v)]) ∧ ∀ base : Heap, K.In base → base.Ns mainGlobals mg → (∀ n ∈ tfL, LamX.TabB base mg (He.cT K n).1 (He.cT K n).2) → L2G.FnG P w K mg base 7 f0 fd ["script"] (spLaw K (TTof K lamL)) := by
  obtain ⟨fd_is_whole, D_is_whole⟩ := c.t.d.def_ 0 (d := dd "is_whole" 13) rfl
  have F_is_whole : Fun K "is_whole" "is_whole" (top 13) (He.fAd K ("is_whole", none)) fd_is_whole := toFun D_is_whole
  obtain ⟨fd_is_letter, D_is_letter⟩ := c.t.d.def_ 1 (d := dd "is_letter" 14) rfl
  have F_is_letter : Fun K "is_letter" "is_letter" (top 14) (He.fAd K ("is_letter", none)) fd_is_letter := toFun D_is_letter
  obtain ⟨fd_check_letters, D_check_letters⟩ := c.t.d.def_ 2 (d := dd "check_letters" 15) rfl
  have F_check_letters : Fun K "check_letters" "check_letters" (top 15) (He.fAd K ("check_letters", none)) fd_check_letters := toFun D_check_letters
  obtain ⟨fd_can_stand, D_can_stand⟩ := c.t.d.def_ 3 (d := dd "can_stand" 16) rfl
  have F_can_stand : Fun K "can_stand" "can_stand" (top 16) (He.fAd K ("can_stand", none)) fd_can_stand := toFun D_can_stand
  obtain ⟨fd_check_shape, D_check_shape⟩ := c.t.d.def_ 4 (d := dd "check_shape" 17) rfl
  have F_check_shape : Fun K "check_shape" "check_shape" (top 17) (He.fAd K ("check_shape", none)) fd_check_shape := toFun D_check_shape
  obtain ⟨fd_check_table, D_check_table⟩ := c.t.d.def_ 5 (d := dd "check_table" 18) rfl
  have F_check_table : Fun K "check_table" "check_table" (top 18) (He.fAd K ("check_table", none)) fd_check_table := toFun D_check_table
  obtain ⟨fd_weight_of, D_weight_of⟩ := c.t.d.def_ 6 (d := dd "weight_of" 19) rfl
  have F_weight_of : Fun K "weight_of" "weight_of" (top 19) (He.fAd K ("weight_of", none)) fd_weight_of := toFun D_weight_of
  obtain ⟨fd_weights_from, D_weights_from⟩ := c.t.d.def_ 7 (d := dd "weights_from" 20) rfl
  have F_weights_from : Fun K "weights_from" "weights_from" (top 20) (He.fAd K ("weights_from", none)) fd_weights_from := toFun D_weights_from
  obtain ⟨fd_as_word, D_as_word⟩ := c.t.d.def_ 8 (d := dd "as_word" 23) rfl
  have F_as_word : Fun K "as_word" "as_word" (top 23) (He.fAd K ("as_word", none)) fd_as_word := toFun D_as_word
  obtain ⟨fd_fewer_first, D_fewer_first⟩ := c.t.d.def_ 9 (d := dd "fewer_first" 24) rfl
  have F_fewer_first : Fun K "fewer_first" "fewer_first" (top 24) (He.fAd K ("fewer_first", none)) fd_fewer_first := toFun D_fewer_first
  obtain ⟨fd_first_row, D_first_row⟩ := c.t.d.def_ 10 (d := dd "first_row" 26) rfl
  have F_first_row : Fun K "first_row" "first_row" (top 26) (He.fAd K ("first_row", none)) fd_first_row := toFun D_first_row
  obtain ⟨fd_pressed, D_pressed⟩ := c.t.d.def_ 11 (d := dd "pressed" 27) rfl
  have F_pressed : Fun K "pressed" "pressed" (top 27) (He.fAd K ("pressed", none)) fd_pressed := toFun D_pressed
  obtain ⟨fd_row_behind, D_row_behind⟩ := c.t.d.def_ 12 (d := dd "row_behind" 28) rfl
  have F_row_behind : Fun K "row_behind" "row_behind" (top 28) (He.fAd K ("row_behind", none)) fd_row_behind := toFun D_row_behind
  obtain ⟨fd_row_of, D_row_of⟩ := c.t.d.def_ 13 (d := dd "row_of" 29) rfl
  have F_row_of : Fun K "row_of" "row_of" (top 29) (He.fAd K ("row_of", none)) fd_row_of := toFun D_row_of
  obtain ⟨fd_alike, D_alike⟩ := c.t.d.def_ 14 (d := dd "alike" 30) rfl
  have F_alike : Fun K "alike" "alike" (top 30) (He.fAd K ("alike", none)) fd_alike := toFun D_alike
  obtain ⟨fd_is_choice, D_is_choice⟩ := c.t.d.def_ 15 (d := dd "is_choice" 32) rfl
  have F_is_choice : Fun K "is_choice" "is_choice" (top 32) (He.fAd K ("is_choice", none)) fd_is_choice := toFun D_is_choice
  obtain ⟨fd_check_choice, D_check_choice⟩ := c.t.d.def_ 16 (d := dd "check_choice" 33) rfl
  have F_check_choice : Fun K "check_choice" "check_choice" (top 33) (He.fAd K ("check_choice", none)) fd_check_choice := toFun D_check_choice
  obtain ⟨fd_choices_of, D_choices_of⟩ := c.t.d.def_ 17 (d := dd "choices_of" 34) rfl
  have F_choices_of : Fun K "choices_of" "choices_of" (top 34) (He.fAd K ("choices_of", none)) fd_choices_of := toFun D_choices_of
  obtain ⟨fd_all_letters, D_all_letters⟩ := c.t.d.def_ 18 (d := dd "all_letters" 37) rfl
  have F_all_letters : Fun K "all_letters" "all_letters" (top 37) (He.fAd K ("all_letters", none)) fd_all_letters := toFun D_all_letters
  obtain ⟨fd_piece_around, D_piece_around⟩ := c.t.d.def_ 19 (d := dd "piece_around" 38) rfl
  have F_piece_around : Fun K "piece_around" "piece_around" (top 38) (He.fAd K ("piece_around", none)) fd_piece_around := toFun D_piece_around
  obtain ⟨fd_hangs_together, D_hangs_together⟩ := c.t.d.def_ 20 (d := dd "hangs_together" 39) rfl
  have F_hangs_together : Fun K "hangs_together" "hangs_together" (top 39) (He.fAd K ("hangs_together", none)) fd_hangs_together := toFun D_hangs_together
  obtain ⟨fd_pieces, D_pieces⟩ := c.t.d.def_ 21 (d := dd "pieces" 40) rfl
  have F_pieces : Fun K "pieces" "pieces" (top 40) (He.fAd K ("pieces", none)) fd_pieces := toFun D_pieces
  obtain ⟨fd__law_mixed, D__law_mixed⟩ := c.t.d.def_ 22 (d := dd "_law_mixed" 42) rfl
  have F__law_mixed : Fun K "_law_mixed" "_law_mixed" (top 42) (He.fAd K ("_law_mixed", none)) fd__law_mixed := toFun D__law_mixed
  obtain ⟨fd__law_folded, D__law_folded⟩ := c.t.d.def_ 23 (d := dd "_law_folded" 43) rfl
  have F__law_folded : Fun K "_law_folded" "_law_folded" (top 43) (He.fAd K ("_law_folded", none)) fd__law_folded := toFun D__law_folded
  obtain ⟨fd__law_draw, D__law_draw⟩ := c.t.d.def_ 24 (d := dd "_law_draw" 44) rfl
  have F__law_draw : Fun K "_law_draw" "_law_draw" (top 44) (He.fAd K ("_law_draw", none)) fd__law_draw := toFun D__law_draw
  obtain ⟨fd__law_begun, D__law_begun⟩ := c.t.d.def_ 25 (d := dd "_law_begun" 45) rfl
  have F__law_begun : Fun K "_law_begun" "_law_begun" (top 45) (He.fAd K ("_law_begun", none)) fd__law_begun := toFun D__law_begun
  obtain ⟨fd__law_like, D__law_like⟩ := c.t.d.def_ 26 (d := dd "_law_like" 46) rfl
  have F__law_like : Fun K "_law_like" "_law_like" (top 46) (He.fAd K ("_law_like", none)) fd__law_like := toFun D__law_like
  obtain ⟨fd__law_table, D__law_table⟩ := c.t.d.def_ 27 (d := dd "_law_table" 47) rfl
  have F__law_table : Fun K "_law_table" "_law_table" (top 47) (He.fAd K ("_law_table", none)) fd__law_table := toFun D__law_table
  obtain ⟨fd__law_word, D__law_word⟩ := c.t.d.def_ 28 (d := dd "_law_word" 48) rfl
  have F__law_word : Fun K "_law_word" "_law_word" (top 48) (He.fAd K ("_law_word", none)) fd__law_word := toFun D__law_word
  obtain ⟨fd__law_near_of, D__law_near_of⟩ := c.t.d.def_ 29 (d := dd "_law_near_of" 49) rfl
  have F__law_near_of : Fun K "_law_near_of" "_law_near_of" (top 49) (He.fAd K ("_law_near_of", none)) fd__law_near_of := toFun D__law_near_of
  obtain ⟨fd__law_hangs, D__law_hangs⟩ := c.t.d.def_ 30 (d := dd "_law_hangs" 50) rfl
  have F__law_hangs : Fun K "_law_hangs" "_law_hangs" (top 50) (He.fAd K ("_law_hangs", none)) fd__law_hangs := toFun D__law_hangs
  obtain ⟨fd__law_is_in, D__law_is_in⟩ := c.t.d.def_ 31 (d := dd "_law_is_in" 51) rfl
  have F__law_is_in : Fun K "_law_is_in" "_law_is_in" (top 51) (He.fAd K ("_law_is_in", none)) fd__law_is_in := toFun D__law_is_in
  obtain ⟨fd_law, D_law⟩ := c.t.d.def_ 32 (d := dd "law" 52) rfl
  have F_law : Fun K "law" "law" (top 52) (He.fAd K ("law", none)) fd_law := toFun D_law
  obtain ⟨fd_init, D_init⟩ := c.t.d.def_ 33 (d := dm "Bonds" "__init__" "Bonds.__init__" 21 0) rfl
  obtain ⟨fd_len, D_len⟩ := c.t.d.def_ 34 (d := dm "Bonds" "__len__" "Bonds.__len__" 21 1) rfl
  obtain ⟨fd_bond, D_bond⟩ := c.t.d.def_ 35 (d := dm "Bonds" "bond" "Bonds.bond" 21 3) rfl
  have F_bond : Fun K "bond" "Bonds.bond" s_bond (He.fAd K ("Bonds", some "bond")) fd_bond := toFun D_bond
  have F_init : Fun K "__init__" "Bonds.__init__" s_init (He.fAd K ("Bonds", some "__init__")) fd_init := toFun D_init
  have F_len : Fun K "__len__" "Bonds.__len__" s_len (He.fAd K ("Bonds", some "__len__")) fd_len := toFun D_len
  have e0 := hfa.symm.trans (He.glo_ok X G (c.t.d.fact 32 (f := .glo "law") rfl))
  cases e0
  have cmore := c.more
  obtain ⟨csys, cmore⟩ := Bool.and_eq_true_iff.mp cmore
  have gW : KdAt P w K mg "WEIGHTS" kd_WEIGHTS := kdB_ok (kvs := wts0) (Bool.and_eq_true_iff.mp cmore).1 (He.glo_ok X G (c.t.d.fact 57 (f := .glo "WEIGHTS") rfl)) (by decide)
  have gC : Cls K (He.ga K "Bonds") := He.cls_ok (c.t.d.fact 52 (f := .cls "Bonds") rfl)
  have gT : NoAttr K (He.ga K "Bonds") "table" := He.noat_ok (c.t.d.fact 53 (f := .noat "Bonds" "table") rfl)
  have gV : NoAttr K (He.ga K "Bonds") "weights" := He.noat_ok (c.t.d.fact 54 (f := .noat "Bonds" "weights") rfl)
  have b0 := FunD.bindsA (ps := ["script"]) D_law fun _ _ _ _ _ _ us hl => match us, hl with | [_], _ => rfl
  obtain ⟨xk, xm⟩ := Bool.and_eq_true_iff.mp cmore
  obtain ⟨xn, xm⟩ := Bool.and_eq_true_iff.mp xm
  have hnd : (lamL.map fun x => (He.cT K x.1).2).Nodup := of_decide_eq_true xn
  have xt := xm
  refine ⟨fd_law, fun s v => b0 s [v] rfl, fun base hb hn TB => ?_⟩
  have ok__law_folded := T7.ok__law_folded (P := P) (w := w) (base := base) (mg := mg) (K := K) (f := He.fAd K ("_law_folded", none)) (fd := fd__law_folded) F__law_folded (He.free_ok X G (c.t.d.fact 39 (f := .free "range") rfl)) (He.free_ok X G (c.t.d.fact 40 (f := .free "enumerate") rfl)) (He.free_ok X G (c.t.d.fact 34 (f := .free "int") rfl))
  have ok__law_begun := T7.ok__law_begun (P := P) (w := w) (base := base) (mg := mg) F__law_begun ok__law_folded (He.glo_ok X G (c.t.d.fact 23 (f := .glo "_law_folded") rfl)) D__law_folded.kp (D__law_folded.bindsN fun _ _ _ _ _ _ us hl => match us, hl with | [_], _ => rfl)
  have ok__law_mixed : FnOk P w K mg base CX0 1 _ fd__law_mixed ["cell", "n"] (spD K false sp__law_mixed) := okD F__law_mixed sc__law_mixed [] (by intro ds k R h; first | (rcases h with ⟨_, _, _, rfl, _⟩ | ⟨rfl, _⟩ <;> rfl) | (obtain ⟨rfl, _⟩ := h; rfl) | (obtain ⟨_, rfl, _⟩ := h; rfl) | (obtain ⟨_, _, rfl, _⟩ := h; rfl) | (obtain ⟨_, _, _, rfl, _⟩ := h; rfl) | (obtain ⟨_, _, _, _, rfl, _⟩ := h; rfl) | (obtain ⟨_, _, _, _, _, rfl, _⟩ := h; rfl) | (obtain ⟨_, _, _, _, _, _, rfl, _⟩ := h; rfl) | (obtain ⟨_, _, _, _, _, _, _, rfl, _⟩ := h; rfl)) ⟨_, fun cdv A outer s H E M X0 hr => w__law_mixed (P := P) (w := w) (base := base) (g_int := (He.free_ok X G (c.t.d.fact 34 (f := .free "int") rfl))) _ _ cdv A outer s H E M X0 hr, r__law_mixed⟩
  have c__law_mixed : CalD P w K mg base 1 "_law_mixed" false sp__law_mixed := ⟨_, _, ["cell", "n"], ok__law_mixed, (He.glo_ok X G (c.t.d.fact 22 (f := .glo "_law_mixed") rfl)), D__law_mixed.kp, D__law_mixed.bindsN fun _ _ _ _ _ _ us hl => match us, hl with | [_, _], _ => rfl⟩
  have ok__law_draw : FnOk P w K mg base CX0 2 _ fd__law_draw ["m", "limit"] (spD K true sp__law_draw) := T7.ok__law_draw (fm := 0) F__law_draw c__law_mixed (He.free_ok X G (c.t.d.fact 38 (f := .free "len") rfl)) (He.free_ok X G (c.t.d.fact 34 (f := .free "int") rfl))
  have c__law_draw : CalD P w K mg base 2 "_law_draw" true sp__law_draw := ⟨_, _, ["m", "limit"], ok__law_draw, (He.glo_ok X G (c.t.d.fact 24 (f := .glo "_law_draw") rfl)), D__law_draw.kp, D__law_draw.bindsN fun _ _ _ _ _ _ us hl => match us, hl with | [_, _], _ => rfl⟩
  have ok__law_table := ok__law_tableS (P := P) (w := w) (base := base) (mg := mg) F__law_table (He.free_ok X G (c.t.d.fact 39 (f := .free "range") rfl)) (He.free_ok X G (c.t.d.fact 38 (f := .free "len") rfl)) c__law_draw
  have c__law_table : CalD P w K mg base 3 "_law_table" true sp__law_tableS := ⟨_, _, ["m", "many", "some"], ok__law_table, (He.glo_ok X G (c.t.d.fact 27 (f := .glo "_law_table") rfl)), D__law_table.kp, D__law_table.bindsN fun _ _ _ _ _ _ us hl => match us, hl with | [_, _, _], _ => rfl⟩
  have ok_check_shape : FnOk P w K mg base CX0 1 _ fd_check_shape ["rows"] (spD K false sp_check_shape) := okD F_check_shape sc_check_shape [] (by intro ds k R h; first | (rcases h with ⟨_, _, _, rfl, _⟩ | ⟨rfl, _⟩ <;> rfl) | (obtain ⟨rfl, _⟩ := h; rfl) | (obtain ⟨_, rfl, _⟩ := h; rfl) | (obtain ⟨_, _, rfl, _⟩ := h; rfl) | (obtain ⟨_, _, _, rfl, _⟩ := h; rfl) | (obtain ⟨_, _, _, _, rfl, _⟩ := h; rfl) | (obtain ⟨_, _, _, _, _, rfl, _⟩ := h; rfl) | (obtain ⟨_, _, _, _, _, _, rfl, _⟩ := h; rfl) | (obtain ⟨_, _, _, _, _, _, _, rfl, _⟩ := h; rfl)) ⟨_, fun cdv A outer s H E M X0 hr => w_check_shape (P := P) (w := w) (base := base) (g_isinstance := (He.free_ok X G (c.t.d.fact 33 (f := .free "isinstance") rfl))) (g_list := (He.free_ok X G (c.t.d.fact 36 (f := .free "list") rfl))) (g_tuple := (He.free_ok X G (c.t.d.fact 37 (f := .free "tuple") rfl))) (g_len := (He.free_ok X G (c.t.d.fact 38 (f := .free "len") rfl))) (g_MOST_LETTERS := (He.int_ok X G (c.t.d.fact 46 (f := .int "MOST_LETTERS" (6)) rfl))) _ _ cdv A outer s H E M X0 hr, r_check_shape⟩
  have c_check_shape : CalD P w K mg base 1 "check_shape" false sp_check_shape := ⟨_, _, ["rows"], ok_check_shape, (He.glo_ok X G (c.t.d.fact 4 (f := .glo "check_shape") rfl)), D_check_shape.kp, D_check_shape.bindsN fun _ _ _ _ _ _ us hl => match us, hl with | [_], _ => rfl⟩
  have ok_is_whole : FnOk P w K mg base CX0 1 _ fd_is_whole ["value"] (spD K false sp_is_whole) := okD F_is_whole sc_is_whole [] (by intro ds k R h; first | (rcases h with ⟨_, _, _, rfl, _⟩ | ⟨rfl, _⟩ <;> rfl) | (obtain ⟨rfl, _⟩ := h; rfl) | (obtain ⟨_, rfl, _⟩ := h; rfl) | (obtain ⟨_, _, rfl, _⟩ := h; rfl) | (obtain ⟨_, _, _, rfl, _⟩ := h; rfl) | (obtain ⟨_, _, _, _, rfl, _⟩ := h; rfl) | (obtain ⟨_, _, _, _, _, rfl, _⟩ := h; rfl) | (obtain ⟨_, _, _, _, _, _, rfl, _⟩ := h; rfl) | (obtain ⟨_, _, _, _, _, _, _, rfl, _⟩ := h; rfl)) ⟨_, fun cdv A outer s H E M X0 hr => w_is_whole (P := P) (w := w) (base := base) (g_isinstance := (He.free_ok X G (c.t.d.fact 33 (f := .free "isinstance") rfl))) (g_int := (He.free_ok X G (c.t.d.fact 34 (f := .free "int") rfl))) (g_bool := (He.free_ok X G (c.t.d.fact 35 (f := .free "bool") rfl))) _ _ cdv A outer s H E M X0 hr, r_is_whole⟩
  have c_is_whole : CalD P w K mg base 1 "is_whole" false sp_is_whole := ⟨_, _, ["value"], ok_is_whole, (He.glo_ok X G (c.t.d.fact 0 (f := .glo "is_whole") rfl)), D_is_whole.kp, D_is_whole.bindsN fun _ _ _ _ _ _ us hl => match us, hl with | [_], _ => rfl⟩
  have ok_can_stand : FnOk P w K mg base CX0 2 _ fd_can_stand ["rows", "one", "other"] (spD K false sp_can_stand) := okD F_can_stand sc_can_stand [] (by intro ds k R h; first | (rcases h with ⟨_, _, _, rfl, _⟩ | ⟨rfl, _⟩ <;> rfl) | (obtain ⟨rfl, _⟩ := h; rfl) | (obtain ⟨_, rfl, _⟩ := h; rfl) | (obtain ⟨_, _, rfl, _⟩ := h; rfl) | (obtain ⟨_, _, _, rfl, _⟩ := h; rfl) | (obtain ⟨_, _, _, _, rfl, _⟩ := h; rfl) | (obtain ⟨_, _, _, _, _, rfl, _⟩ := h; rfl) | (obtain ⟨_, _, _, _, _, _, rfl, _⟩ := h; rfl) | (obtain ⟨_, _, _, _, _, _, _, rfl, _⟩ := h; rfl)) ⟨_, fun cdv A outer s H E M X0 hr => w_can_stand (P := P) (w := w) (base := base) (g_OWN_BOND := (He.int_ok X G (c.t.d.fact 48 (f := .int "OWN_BOND" (1)) rfl))) (g_WEIGHTS := gW) (c_is_whole := c_is_whole) _ _ cdv A outer s H E M X0 hr, r_can_stand⟩
  have c_can_stand : CalD P w K mg base 2 "can_stand" false sp_can_stand := ⟨_, _, ["rows", "one", "other"], ok_can_stand, (He.glo_ok X G (c.t.d.fact 3 (f := .glo "can_stand") rfl)), D_can_stand.kp, D_can_stand.bindsN fun _ _ _ _ _ _ us hl => match us, hl with | [_, _, _], _ => rfl⟩
  have ok_check_table : FnOk P w K mg base CX0 3 _ fd_check_table ["rows"] (spD K false sp_check_table) := okD F_check_table sc_check_table [] (by intro ds k R h; first | (rcases h with ⟨_, _, _, rfl, _⟩ | ⟨rfl, _⟩ <;> rfl) | (obtain ⟨rfl, _⟩ := h; rfl) | (obtain ⟨_, rfl, _⟩ := h; rfl) | (obtain ⟨_, _, rfl, _⟩ := h; rfl) | (obtain ⟨_, _, _, rfl, _⟩ := h; rfl) | (obtain ⟨_, _, _, _, rfl, _⟩ := h; rfl) | (obtain ⟨_, _, _, _, _, rfl, _⟩ := h; rfl) | (obtain ⟨_, _, _, _, _, _, rfl, _⟩ := h; rfl) | (obtain ⟨_, _, _, _, _, _, _, rfl, _⟩ := h; rfl)) ⟨_, fun cdv A outer s H E M X0 hr => w_check_table (P := P) (w := w) (base := base) (g_list := (He.free_ok X G (c.t.d.fact 36 (f := .free "list") rfl))) (g_range := (He.free_ok X G (c.t.d.fact 39 (f := .free "range") rfl))) (g_len := (He.free_ok X G (c.t.d.fact 38 (f := .free "len") rfl))) (c_check_shape := c_check_shape) (c_can_stand := c_can_stand) _ _ cdv A outer s H E M X0 hr, r_check_table⟩
  have c_check_table : CalD P w K mg base 3 "check_table" false sp_check_table := ⟨_, _, ["rows"], ok_check_table, (He.glo_ok X G (c.t.d.fact 5 (f := .glo "check_table") rfl)), D_check_table.kp, D_check_table.bindsN fun _ _ _ _ _ _ us hl => match us, hl with | [_], _ => rfl⟩
  have ok_weight_of : FnOk P w K mg base CX0 1 _ fd_weight_of ["table", "one", "other"] (spD K false sp_weight_of) := okD F_weight_of sc_weight_of [] (by intro ds k R h; first | (rcases h with ⟨_, _, _, rfl, _⟩ | ⟨rfl, _⟩ <;> rfl) | (obtain ⟨rfl, _⟩ := h; rfl) | (obtain ⟨_, rfl, _⟩ := h; rfl) | (obtain ⟨_, _, rfl, _⟩ := h; rfl) | (obtain ⟨_, _, _, rfl, _⟩ := h; rfl) | (obtain ⟨_, _, _, _, rfl, _⟩ := h; rfl) | (obtain ⟨_, _, _, _, _, rfl, _⟩ := h; rfl) | (obtain ⟨_, _, _, _, _, _, rfl, _⟩ := h; rfl) | (obtain ⟨_, _, _, _, _, _, _, rfl, _⟩ := h; rfl)) ⟨_, fun cdv A outer s H E M X0 hr => w_weight_of (P := P) (w := w) (base := base) (g_OWN_WEIGHT := (He.int_ok X G (c.t.d.fact 49 (f := .int "OWN_WEIGHT" (-2)) rfl))) (g_WEIGHTS := gW) _ _ cdv A outer s H E M X0 hr, r_weight_of⟩
  have c_weight_of : CalD P w K mg base 1 "weight_of" false sp_weight_of := ⟨_, _, ["table", "one", "other"], ok_weight_of, (He.glo_ok X G (c.t.d.fact 6 (f := .glo "weight_of") rfl)), D_weight_of.kp, D_weight_of.bindsN fun _ _ _ _ _ _ us hl => match us, hl with | [_, _, _], _ => rfl⟩
  have ok_weights_from : FnOk P w K mg base CX0 2 _ fd_weights_from ["table", "one"] (spD K false sp_weights_from) := okD F_weights_from sc_weights_from [] (by intro ds k R h; first | (rcases h with ⟨_, _, _, rfl, _⟩ | ⟨rfl, _⟩ <;> rfl) | (obtain ⟨rfl, _⟩ := h; rfl) | (obtain ⟨_, rfl, _⟩ := h; rfl) | (obtain ⟨_, _, rfl, _⟩ := h; rfl) | (obtain ⟨_, _, _, rfl, _⟩ := h; rfl) | (obtain ⟨_, _, _, _, rfl, _⟩ := h; rfl) | (obtain ⟨_, _, _, _, _, rfl, _⟩ := h; rfl) | (obtain ⟨_, _, _, _, _, _, rfl, _⟩ := h; rfl) | (obtain ⟨_, _, _, _, _, _, _, rfl, _⟩ := h; rfl)) ⟨_, fun cdv A outer s H E M X0 hr => w_weights_from (P := P) (w := w) (base := base) (g_tuple := (He.free_ok X G (c.t.d.fact 37 (f := .free "tuple") rfl))) (g_range := (He.free_ok X G (c.t.d.fact 39 (f := .free "range") rfl))) (g_len := (He.free_ok X G (c.t.d.fact 38 (f := .free "len") rfl))) (c_weight_of := c_weight_of) _ _ cdv A outer s H E M X0 hr, r_weights_from⟩
  have c_weights_from : CalD P w K mg base 2 "weights_from" false sp_weights_from := ⟨_, _, ["table", "one"], ok_weights_from, (He.glo_ok X G (c.t.d.fact 7 (f := .glo "weights_from") rfl)), D_weights_from.kp, D_weights_from.bindsN fun _ _ _ _ _ _ us hl => match us, hl with | [_, _], _ => rfl⟩
  have c_Bonds : MakD P w K mg base 4 "Bonds" (He.ga K "Bonds") (sp_Bonds (He.ga K "Bonds")) := ⟨_, _, ["self", "rows"], He.mkr_ok (c.t.d.fact 55 (f := .mkr "Bonds") rfl), ok_init F_init (He.free_ok X G (c.t.d.fact 37 (f := .free "tuple") rfl)) (He.free_ok X G (c.t.d.fact 39 (f := .free "range") rfl)) (He.free_ok X G (c.t.d.fact 38 (f := .free "len") rfl)) c_check_table c_weights_from gC gT gV, (He.glo_ok X G (c.t.d.fact 51 (f := .glo "Bonds") rfl)), D_init.bindsN fun _ _ _ _ _ _ us hl => match us, hl with | [_, _], _ => rfl⟩
  have ok_fewer_first : L2G.FnG P w K mg base 4 (He.fAd K ("fewer_first", none)) fd_fewer_first ["tuples"] (spDT K (TTof K lamL) false sp_fewer_first) := okDGT F_fewer_first sc_fewer_first [] (by intro ds k R h; first | (rcases h with ⟨_, _, _, rfl, _⟩ | ⟨rfl, _⟩ <;> rfl) | (obtain ⟨rfl, _⟩ := h; rfl) | (obtain ⟨_, rfl, _⟩ := h; rfl) | (obtain ⟨_, _, rfl, _⟩ := h; rfl) | (obtain ⟨_, _, _, rfl, _⟩ := h; rfl) | (obtain ⟨_, _, _, _, rfl, _⟩ := h; rfl) | (obtain ⟨_, _, _, _, _, rfl, _⟩ := h; rfl) | (obtain ⟨_, _, _, _, _, _, rfl, _⟩ := h; rfl) | (obtain ⟨_, _, _, _, _, _, _, rfl, _⟩ := h; rfl)) ⟨_, fun cdv A outer s H E c0 hcd hK fr ho gu hr => w_fewer_first (BC := He.ga K "Bonds") (P := P) (w := w) (base := base) (g_sorted := (He.free_ok X G (c.t.d.fact 41 (f := .free "sorted") rfl))) (g_len := (He.free_ok X G (c.t.d.fact 38 (f := .free "len") rfl))) _ cdv A outer s H E hK fr (inT_of hnd (x := (("fewer_first", none), lamQ_fewer_first)) (List.mem_cons_self)) ho (TB ("fewer_first", none) (List.mem_cons_self)) hcd gu hr, r_fewer_first (He.ga K "Bonds") K⟩
  have c_fewer_first : CalT P w K mg base 4 "fewer_first" (TTof K lamL) false sp_fewer_first := ⟨_, _, ["tuples"], ok_fewer_first, (He.glo_ok X G (c.t.d.fact 9 (f := .glo "fewer_first") rfl)), D_fewer_first.kp, D_fewer_first.bindsN fun _ _ _ _ _ _ us hl => match us, hl with | [_], _ => rfl⟩
  have c_len_Bonds : LenD P w K mg base 1 (He.ga K "Bonds") (sp_len_Bonds (He.ga K "Bonds")) := ⟨_, _, ["self"], He.meth_ok (c.t.d.fact 56 (f := .meth "Bonds" "__len__") rfl), ok_len F_len (He.free_ok X G (c.t.d.fact 38 (f := .free "len") rfl)) gC gT, D_len.bindsN fun _ _ _ _ _ _ us hl => match us, hl with | [_], _ => rfl⟩
  have ok_choices_of : L2G.FnG P w K mg base 5 (He.fAd K ("choices_of", none)) fd_choices_of ["bonds"] (spDT K (TTof K lamL) false (sp_choices_of (He.ga K "Bonds"))) := okDGT F_choices_of sc_choices_of [] (by intro ds k R h; first | (rcases h with ⟨_, _, _, rfl, _⟩ | ⟨rfl, _⟩ <;> rfl) | (obtain ⟨rfl, _⟩ := h; rfl) | (obtain ⟨_, rfl, _⟩ := h; rfl) | (obtain ⟨_, _, rfl, _⟩ := h; rfl) | (obtain ⟨_, _, _, rfl, _⟩ := h; rfl) | (obtain ⟨_, _, _, _, rfl, _⟩ := h; rfl) | (obtain ⟨_, _, _, _, _, rfl, _⟩ := h; rfl) | (obtain ⟨_, _, _, _, _, _, rfl, _⟩ := h; rfl) | (obtain ⟨_, _, _, _, _, _, _, rfl, _⟩ := h; rfl)) ⟨_, fun cdv A outer s H E c0 hcd hK fr ho gu hr => w_choices_of (BC := He.ga K "Bonds") (P := P) (w := w) (base := base) (g_range := (He.free_ok X G (c.t.d.fact 39 (f := .free "range") rfl))) (g_len := (He.free_ok X G (c.t.d.fact 38 (f := .free "len") rfl))) (g_tuple := (He.free_ok X G (c.t.d.fact 37 (f := .free "tuple") rfl))) (c_fewer_first := c_fewer_first) (c_len_Bonds := c_len_Bonds) _ cdv A outer s H E hK fr ho  hcd gu hr, r_choices_of (He.ga K "Bonds") K⟩
  have c_choices_of : CalT P w K mg base 5 "choices_of" (TTof K lamL) false (sp_choices_of (He.ga K "Bonds")) := ⟨_, _, ["bonds"], ok_choices_of, (He.glo_ok X G (c.t.d.fact 17 (f := .glo "choices_of") rfl)), D_choices_of.kp, D_choices_of.bindsN fun _ _ _ _ _ _ us hl => match us, hl with | [_], _ => rfl⟩
  have ok__law_near_of : FnOk P w K mg base CX0 1 _ fd__law_near_of ["table", "found", "letter"] (spD K false sp__law_near_of) := okD F__law_near_of sc__law_near_of [] (by intro ds k R h; first | (rcases h with ⟨_, _, _, rfl, _⟩ | ⟨rfl, _⟩ <;> rfl) | (obtain ⟨rfl, _⟩ := h; rfl) | (obtain ⟨_, rfl, _⟩ := h; rfl) | (obtain ⟨_, _, rfl, _⟩ := h; rfl) | (obtain ⟨_, _, _, rfl, _⟩ := h; rfl) | (obtain ⟨_, _, _, _, rfl, _⟩ := h; rfl) | (obtain ⟨_, _, _, _, _, rfl, _⟩ := h; rfl) | (obtain ⟨_, _, _, _, _, _, rfl, _⟩ := h; rfl) | (obtain ⟨_, _, _, _, _, _, _, rfl, _⟩ := h; rfl)) ⟨_, fun cdv A outer s H E M X0 hr => w__law_near_of (P := P) (w := w) (base := base)  _ _ cdv A outer s H E M X0 hr, r__law_near_of⟩
  have c__law_near_of : CalD P w K mg base 1 "_law_near_of" false sp__law_near_of := ⟨_, _, ["table", "found", "letter"], ok__law_near_of, (He.glo_ok X G (c.t.d.fact 29 (f := .glo "_law_near_of") rfl)), D__law_near_of.kp, D__law_near_of.bindsN fun _ _ _ _ _ _ us hl => match us, hl with | [_, _, _], _ => rfl⟩
  have ok__law_hangs : FnOk P w K mg base CX0 2 _ fd__law_hangs ["table", "some"] (spD K false sp__law_hangs) := okD F__law_hangs sc__law_hangs [] (by intro ds k R h; first | (rcases h with ⟨_, _, _, rfl, _⟩ | ⟨rfl, _⟩ <;> rfl) | (obtain ⟨rfl, _⟩ := h; rfl) | (obtain ⟨_, rfl, _⟩ := h; rfl) | (obtain ⟨_, _, rfl, _⟩ := h; rfl) | (obtain ⟨_, _, _, rfl, _⟩ := h; rfl) | (obtain ⟨_, _, _, _, rfl, _⟩ := h; rfl) | (obtain ⟨_, _, _, _, _, rfl, _⟩ := h; rfl) | (obtain ⟨_, _, _, _, _, _, rfl, _⟩ := h; rfl) | (obtain ⟨_, _, _, _, _, _, _, rfl, _⟩ := h; rfl)) ⟨_, fun cdv A outer s H E M X0 hr => w__law_hangs (P := P) (w := w) (base := base) (g_list := (He.free_ok X G (c.t.d.fact 36 (f := .free "list") rfl))) (g_len := (He.free_ok X G (c.t.d.fact 38 (f := .free "len") rfl))) (c__law_near_of := c__law_near_of) _ _ cdv A outer s H E M X0 hr, r__law_hangs⟩
  have c__law_hangs : CalD P w K mg base 2 "_law_hangs" false sp__law_hangs := ⟨_, _, ["table", "some"], ok__law_hangs, (He.glo_ok X G (c.t.d.fact 30 (f := .glo "_law_hangs") rfl)), D__law_hangs.kp, D__law_hangs.bindsN fun _ _ _ _ _ _ us hl => match us, hl with | [_, _], _ => rfl⟩
  have ok__law_like : L2G.FnG P w K mg base 1 _ fd__law_like ["told", "due"] (spD K false sp__law_likeA) := okDG F__law_like sc__law_like [] (by intro ds k R h; first | (rcases h with ⟨_, _, _, rfl, _⟩ | ⟨rfl, _⟩ <;> rfl) | (obtain ⟨rfl, _⟩ := h; rfl) | (obtain ⟨_, rfl, _⟩ := h; rfl) | (obtain ⟨_, _, rfl, _⟩ := h; rfl) | (obtain ⟨_, _, _, rfl, _⟩ := h; rfl) | (obtain ⟨_, _, _, _, rfl, _⟩ := h; rfl) | (obtain ⟨_, _, _, _, _, rfl, _⟩ := h; rfl) | (obtain ⟨_, _, _, _, _, _, rfl, _⟩ := h; rfl) | (obtain ⟨_, _, _, _, _, _, _, rfl, _⟩ := h; rfl)) ⟨_, fun cdv A outer s H E M X0 gu hr => w__law_like (P := P) (w := w) (base := base) (g_repr := (He.free_ok X G (c.t.d.fact 45 (f := .free "repr") rfl))) (g_hsy := (sysB_ok csys)) _ _ cdv A outer s H E M X0 gu hr, r__law_likeA⟩
  have c__law_like : CalG P w K mg base 1 "_law_like" false sp__law_likeA := ⟨_, _, ["told", "due"], ok__law_like, (He.glo_ok X G (c.t.d.fact 26 (f := .glo "_law_like") rfl)), D__law_like.kp, D__law_like.bindsN fun _ _ _ _ _ _ us hl => match us, hl with | [_, _], _ => rfl⟩
  have ok_is_letter : FnOk P w K mg base CX0 2 _ fd_is_letter ["value", "many"] (spD K false sp_is_letter) := okD F_is_letter sc_is_letter [] (by intro ds k R h; first | (rcases h with ⟨_, _, _, rfl, _⟩ | ⟨rfl, _⟩ <;> rfl) | (obtain ⟨rfl, _⟩ := h; rfl) | (obtain ⟨_, rfl, _⟩ := h; rfl) | (obtain ⟨_, _, rfl, _⟩ := h; rfl) | (obtain ⟨_, _, _, rfl, _⟩ := h; rfl) | (obtain ⟨_, _, _, _, rfl, _⟩ := h; rfl) | (obtain ⟨_, _, _, _, _, rfl, _⟩ := h; rfl) | (obtain ⟨_, _, _, _, _, _, rfl, _⟩ := h; rfl) | (obtain ⟨_, _, _, _, _, _, _, rfl, _⟩ := h; rfl)) ⟨_, fun cdv A outer s H E M X0 hr => w_is_letter (P := P) (w := w) (base := base) (c_is_whole := c_is_whole) _ _ cdv A outer s H E M X0 hr, r_is_letter⟩
  have c_is_letter : CalD P w K mg base 2 "is_letter" false sp_is_letter := ⟨_, _, ["value", "many"], ok_is_letter, (He.glo_ok X G (c.t.d.fact 1 (f := .glo "is_letter") rfl)), D_is_letter.kp, D_is_letter.bindsN fun _ _ _ _ _ _ us hl => match us, hl with | [_, _], _ => rfl⟩
  have ok_is_choice : FnOk P w K mg base CX0 3 _ fd_is_choice ["bonds", "value"] (spD K false (sp_is_choice (He.ga K "Bonds"))) := okD F_is_choice sc_is_choice [] (by intro ds k R h; first | (rcases h with ⟨_, _, _, rfl, _⟩ | ⟨rfl, _⟩ <;> rfl) | (obtain ⟨rfl, _⟩ := h; rfl) | (obtain ⟨_, rfl, _⟩ := h; rfl) | (obtain ⟨_, _, rfl, _⟩ := h; rfl) | (obtain ⟨_, _, _, rfl, _⟩ := h; rfl) | (obtain ⟨_, _, _, _, rfl, _⟩ := h; rfl) | (obtain ⟨_, _, _, _, _, rfl, _⟩ := h; rfl) | (obtain ⟨_, _, _, _, _, _, rfl, _⟩ := h; rfl) | (obtain ⟨_, _, _, _, _, _, _, rfl, _⟩ := h; rfl)) ⟨_, fun cdv A outer s H E M X0 hr => w_is_choice (BC := He.ga K "Bonds") (P := P) (w := w) (base := base) (g_isinstance := (He.free_ok X G (c.t.d.fact 33 (f := .free "isinstance") rfl))) (g_tuple := (He.free_ok X G (c.t.d.fact 37 (f := .free "tuple") rfl))) (g_all := (He.free_ok X G (c.t.d.fact 43 (f := .free "all") rfl))) (g_len := (He.free_ok X G (c.t.d.fact 38 (f := .free "len") rfl))) (g_zip := (He.free_ok X G (c.t.d.fact 42 (f := .free "zip") rfl))) (c_is_letter := c_is_letter) (c_len_Bonds := c_len_Bonds) _ _ cdv A outer s H E M X0 hr, r_is_choice (He.ga K "Bonds")⟩
  have c_is_choice : CalD P w K mg base 3 "is_choice" false (sp_is_choice (He.ga K "Bonds")) := ⟨_, _, ["bonds", "value"], ok_is_choice, (He.glo_ok X G (c.t.d.fact 15 (f := .glo "is_choice") rfl)), D_is_choice.kp, D_is_choice.bindsN fun _ _ _ _ _ _ us hl => match us, hl with | [_, _], _ => rfl⟩
  have ok_check_choice : FnOk P w K mg base CX0 4 _ fd_check_choice ["bonds", "value"] (spD K false (sp_check_choice (He.ga K "Bonds"))) := okD F_check_choice sc_check_choice [] (by intro ds k R h; first | (rcases h with ⟨_, _, _, rfl, _⟩ | ⟨rfl, _⟩ <;> rfl) | (obtain ⟨rfl, _⟩ := h; rfl) | (obtain ⟨_, rfl, _⟩ := h; rfl) | (obtain ⟨_, _, rfl, _⟩ := h; rfl) | (obtain ⟨_, _, _, rfl, _⟩ := h; rfl) | (obtain ⟨_, _, _, _, rfl, _⟩ := h; rfl) | (obtain ⟨_, _, _, _, _, rfl, _⟩ := h; rfl) | (obtain ⟨_, _, _, _, _, _, rfl, _⟩ := h; rfl) | (obtain ⟨_, _, _, _, _, _, _, rfl, _⟩ := h; rfl)) ⟨_, fun cdv A outer s H E M X0 hr => w_check_choice (BC := He.ga K "Bonds") (P := P) (w := w) (base := base) (c_is_choice := c_is_choice) _ _ cdv A outer s H E M X0 hr, r_check_choice (He.ga K "Bonds")⟩
  have c_check_choice : CalD P w K mg base 4 "check_choice" false (sp_check_choice (He.ga K "Bonds")) := ⟨_, _, ["bonds", "value"], ok_check_choice, (He.glo_ok X G (c.t.d.fact 16 (f := .glo "check_choice") rfl)), D_check_choice.kp, D_check_choice.bindsN fun _ _ _ _ _ _ us hl => match us, hl with | [_, _], _ => rfl⟩
  have ok_check_letters : FnOk P w K mg base CX0 3 _ fd_check_letters ["many", "one", "other"] (spD K false sp_check_letters) := okD F_check_letters sc_check_letters [] (by intro ds k R h; first | (rcases h with ⟨_, _, _, rfl, _⟩ | ⟨rfl, _⟩ <;> rfl) | (obtain ⟨rfl, _⟩ := h; rfl) | (obtain ⟨_, rfl, _⟩ := h; rfl) | (obtain ⟨_, _, rfl, _⟩ := h; rfl) | (obtain ⟨_, _, _, rfl, _⟩ := h; rfl) | (obtain ⟨_, _, _, _, rfl, _⟩ := h; rfl) | (obtain ⟨_, _, _, _, _, rfl, _⟩ := h; rfl) | (obtain ⟨_, _, _, _, _, _, rfl, _⟩ := h; rfl) | (obtain ⟨_, _, _, _, _, _, _, rfl, _⟩ := h; rfl)) ⟨_, fun cdv A outer s H E M X0 hr => w_check_letters (P := P) (w := w) (base := base) (c_is_letter := c_is_letter) _ _ cdv A outer s H E M X0 hr, r_check_letters⟩
  have c_check_letters : CalD P w K mg base 3 "check_letters" false sp_check_letters := ⟨_, _, ["many", "one", "other"], ok_check_letters, (He.glo_ok X G (c.t.d.fact 2 (f := .glo "check_letters") rfl)), D_check_letters.kp, D_check_letters.bindsN fun _ _ _ _ _ _ us hl => match us, hl with | [_, _, _], _ => rfl⟩
  have c_bond : MetD P w K mg base 4 (He.ga K "Bonds") "bond" (sp_bond (He.ga K "Bonds")) := ⟨_, _, ["self", "one", "other"], He.meth_ok (c.t.d.fact 63 (f := .meth "Bonds" "bond") rfl), ok_bond F_bond (He.free_ok X G (c.t.d.fact 38 (f := .free "len") rfl)) c_check_letters gC gT gV, D_bond.bindsN fun _ _ _ _ _ _ us hl => match us, hl with | [_, _, _], _ => rfl⟩
  have ok_piece_around : FnOk P w K mg base CX0 5 _ fd_piece_around ["bonds", "choice", "letter"] (spD K false (sp_piece_around (He.ga K "Bonds"))) := okD F_piece_around sc_piece_around [] (by intro ds k R h; first | (rcases h with ⟨_, _, _, rfl, _⟩ | ⟨rfl, _⟩ <;> rfl) | (obtain ⟨rfl, _⟩ := h; rfl) | (obtain ⟨_, rfl, _⟩ := h; rfl) | (obtain ⟨_, _, rfl, _⟩ := h; rfl) | (obtain ⟨_, _, _, rfl, _⟩ := h; rfl) | (obtain ⟨_, _, _, _, rfl, _⟩ := h; rfl) | (obtain ⟨_, _, _, _, _, rfl, _⟩ := h; rfl) | (obtain ⟨_, _, _, _, _, _, rfl, _⟩ := h; rfl) | (obtain ⟨_, _, _, _, _, _, _, rfl, _⟩ := h; rfl)) ⟨_, fun cdv A outer s H E M X0 hr => w_piece_around (BC := He.ga K "Bonds") (P := P) (w := w) (base := base) (g_any := (He.free_ok X G (c.t.d.fact 44 (f := .free "any") rfl))) (g_LOOSE := (He.int_ok X G (c.t.d.fact 50 (f := .int "LOOSE" (2)) rfl))) (g_tuple := (He.free_ok X G (c.t.d.fact 37 (f := .free "tuple") rfl))) (g_sorted := (He.free_ok X G (c.t.d.fact 41 (f := .free "sorted") rfl))) (c_bond := c_bond) (g_Bonds := gC) _ _ cdv A outer s H E M X0 hr, r_piece_around (He.ga K "Bonds")⟩
  have c_piece_around : CalD P w K mg base 5 "piece_around" false (sp_piece_around (He.ga K "Bonds")) := ⟨_, _, ["bonds", "choice", "letter"], ok_piece_around, (He.glo_ok X G (c.t.d.fact 19 (f := .glo "piece_around") rfl)), D_piece_around.kp, D_piece_around.bindsN fun _ _ _ _ _ _ us hl => match us, hl with | [_, _, _], _ => rfl⟩
  have ok_hangs_together : FnOk P w K mg base CX0 6 _ fd_hangs_together ["bonds", "choice"] (spD K false (sp_hangs_together (He.ga K "Bonds"))) := okD F_hangs_together sc_hangs_together [] (by intro ds k R h; first | (rcases h with ⟨_, _, _, rfl, _⟩ | ⟨rfl, _⟩ <;> rfl) | (obtain ⟨rfl, _⟩ := h; rfl) | (obtain ⟨_, rfl, _⟩ := h; rfl) | (obtain ⟨_, _, rfl, _⟩ := h; rfl) | (obtain ⟨_, _, _, rfl, _⟩ := h; rfl) | (obtain ⟨_, _, _, _, rfl, _⟩ := h; rfl) | (obtain ⟨_, _, _, _, _, rfl, _⟩ := h; rfl) | (obtain ⟨_, _, _, _, _, _, rfl, _⟩ := h; rfl) | (obtain ⟨_, _, _, _, _, _, _, rfl, _⟩ := h; rfl)) ⟨_, fun cdv A outer s H E M X0 hr => w_hangs_together (BC := He.ga K "Bonds") (P := P) (w := w) (base := base) (g_len := (He.free_ok X G (c.t.d.fact 38 (f := .free "len") rfl))) (c_check_choice := c_check_choice) (c_piece_around := c_piece_around) _ _ cdv A outer s H E M X0 hr, r_hangs_together (He.ga K "Bonds")⟩
  have c_hangs_together : CalD P w K mg base 6 "hangs_together" false (sp_hangs_together (He.ga K "Bonds")) := ⟨_, _, ["bonds", "choice"], ok_hangs_together, (He.glo_ok X G (c.t.d.fact 20 (f := .glo "hangs_together") rfl)), D_hangs_together.kp, D_hangs_together.bindsN fun _ _ _ _ _ _ us hl => match us, hl with | [_, _], _ => rfl⟩
  have ok_all_letters : FnOk P w K mg base CX0 3 _ fd_all_letters ["bonds"] (spD K false (sp_all_letters (He.ga K "Bonds"))) := okD F_all_letters sc_all_letters [] (by intro ds k R h; first | (rcases h with ⟨_, _, _, rfl, _⟩ | ⟨rfl, _⟩ <;> rfl) | (obtain ⟨rfl, _⟩ := h; rfl) | (obtain ⟨_, rfl, _⟩ := h; rfl) | (obtain ⟨_, _, rfl, _⟩ := h; rfl) | (obtain ⟨_, _, _, rfl, _⟩ := h; rfl) | (obtain ⟨_, _, _, _, rfl, _⟩ := h; rfl) | (obtain ⟨_, _, _, _, _, rfl, _⟩ := h; rfl) | (obtain ⟨_, _, _, _, _, _, rfl, _⟩ := h; rfl) | (obtain ⟨_, _, _, _, _, _, _, rfl, _⟩ := h; rfl)) ⟨_, fun cdv A outer s H E M X0 hr => w_all_letters (BC := He.ga K "Bonds") (P := P) (w := w) (base := base) (g_tuple := (He.free_ok X G (c.t.d.fact 37 (f := .free "tuple") rfl))) (g_range := (He.free_ok X G (c.t.d.fact 39 (f := .free "range") rfl))) (g_len := (He.free_ok X G (c.t.d.fact 38 (f := .free "len") rfl))) (c_len_Bonds := c_len_Bonds) _ _ cdv A outer s H E M X0 hr, r_all_letters (He.ga K "Bonds")⟩
  have c_all_letters : CalD P w K mg base 3 "all_letters" false (sp_all_letters (He.ga K "Bonds")) := ⟨_, _, ["bonds"], ok_all_letters, (He.glo_ok X G (c.t.d.fact 18 (f := .glo "all_letters") rfl)), D_all_letters.kp, D_all_letters.bindsN fun _ _ _ _ _ _ us hl => match us, hl with | [_], _ => rfl⟩
  have ok_pieces : FnOk P w K mg base CX0 6 _ fd_pieces ["bonds"] (spD K false (sp_pieces (He.ga K "Bonds"))) := okD F_pieces sc_pieces [] (by intro ds k R h; first | (rcases h with ⟨_, _, _, rfl, _⟩ | ⟨rfl, _⟩ <;> rfl) | (obtain ⟨rfl, _⟩ := h; rfl) | (obtain ⟨_, rfl, _⟩ := h; rfl) | (obtain ⟨_, _, rfl, _⟩ := h; rfl) | (obtain ⟨_, _, _, rfl, _⟩ := h; rfl) | (obtain ⟨_, _, _, _, rfl, _⟩ := h; rfl) | (obtain ⟨_, _, _, _, _, rfl, _⟩ := h; rfl) | (obtain ⟨_, _, _, _, _, _, rfl, _⟩ := h; rfl) | (obtain ⟨_, _, _, _, _, _, _, rfl, _⟩ := h; rfl)) ⟨_, fun cdv A outer s H E M X0 hr => w_pieces (BC := He.ga K "Bonds") (P := P) (w := w) (base := base) (g_tuple := (He.free_ok X G (c.t.d.fact 37 (f := .free "tuple") rfl))) (g_sorted := (He.free_ok X G (c.t.d.fact 41 (f := .free "sorted") rfl))) (c_all_letters := c_all_letters) (c_piece_around := c_piece_around) _ _ cdv A outer s H E M X0 hr, r_pieces (He.ga K "Bonds")⟩
  have c_pieces : CalD P w K mg base 6 "pieces" false (sp_pieces (He.ga K "Bonds")) := ⟨_, _, ["bonds"], ok_pieces, (He.glo_ok X G (c.t.d.fact 21 (f := .glo "pieces") rfl)), D_pieces.kp, D_pieces.bindsN fun _ _ _ _ _ _ us hl => match us, hl with | [_], _ => rfl⟩
  have ok__law_is_in : FnOk P w K mg base CX0 1 _ fd__law_is_in ["one", "other"] (spD K false sp__law_is_in) := okD F__law_is_in sc__law_is_in [] (by intro ds k R h; first | (rcases h with ⟨_, _, _, rfl, _⟩ | ⟨rfl, _⟩ <;> rfl) | (obtain ⟨rfl, _⟩ := h; rfl) | (obtain ⟨_, rfl, _⟩ := h; rfl) | (obtain ⟨_, _, rfl, _⟩ := h; rfl) | (obtain ⟨_, _, _, rfl, _⟩ := h; rfl) | (obtain ⟨_, _, _, _, rfl, _⟩ := h; rfl) | (obtain ⟨_, _, _, _, _, rfl, _⟩ := h; rfl) | (obtain ⟨_, _, _, _, _, _, rfl, _⟩ := h; rfl) | (obtain ⟨_, _, _, _, _, _, _, rfl, _⟩ := h; rfl)) ⟨_, fun cdv A outer s H E M X0 hr => w__law_is_in (P := P) (w := w) (base := base)  _ _ cdv A outer s H E M X0 hr, r__law_is_in⟩
  have c__law_is_in : CalD P w K mg base 1 "_law_is_in" false sp__law_is_in := ⟨_, _, ["one", "other"], ok__law_is_in, (He.glo_ok X G (c.t.d.fact 31 (f := .glo "_law_is_in") rfl)), D__law_is_in.kp, D__law_is_in.bindsN fun _ _ _ _ _ _ us hl => match us, hl with | [_, _], _ => rfl⟩
  have ok__law_word : FnOk P w K mg base CX0 3 _ fd__law_word ["m", "many", "most"] (spD K true sp__law_wordL) := okD F__law_word sc__law_word [] (by intro ds k R h; first | (rcases h with ⟨_, _, _, rfl, _⟩ | ⟨rfl, _⟩ <;> rfl) | (obtain ⟨rfl, _⟩ := h; rfl) | (obtain ⟨_, rfl, _⟩ := h; rfl) | (obtain ⟨_, _, rfl, _⟩ := h; rfl) | (obtain ⟨_, _, _, rfl, _⟩ := h; rfl) | (obtain ⟨_, _, _, _, rfl, _⟩ := h; rfl) | (obtain ⟨_, _, _, _, _, rfl, _⟩ := h; rfl) | (obtain ⟨_, _, _, _, _, _, rfl, _⟩ := h; rfl) | (obtain ⟨_, _, _, _, _, _, _, rfl, _⟩ := h; rfl)) ⟨_, fun cdv A outer s H E M X0 hr => w__law_word (P := P) (w := w) (base := base) (g_range := (He.free_ok X G (c.t.d.fact 39 (f := .free "range") rfl))) (c__law_draw := c__law_draw) _ _ cdv A outer s H E M X0 hr, r__law_wordL⟩
  have c__law_word : CalD P w K mg base 3 "_law_word" true sp__law_wordL := ⟨_, _, ["m", "many", "most"], ok__law_word, (He.glo_ok X G (c.t.d.fact 28 (f := .glo "_law_word") rfl)), D__law_word.kp, D__law_word.bindsN fun _ _ _ _ _ _ us hl => match us, hl with | [_, _, _], _ => rfl⟩
  have ok_first_row : FnOk P w K mg base CX0 3 _ fd_first_row ["bonds"] (spD K false (sp_first_row (He.ga K "Bonds"))) := okD F_first_row sc_first_row [] (by intro ds k R h; first | (rcases h with ⟨_, _, _, rfl, _⟩ | ⟨rfl, _⟩ <;> rfl) | (obtain ⟨rfl, _⟩ := h; rfl) | (obtain ⟨_, rfl, _⟩ := h; rfl) | (obtain ⟨_, _, rfl, _⟩ := h; rfl) | (obtain ⟨_, _, _, rfl, _⟩ := h; rfl) | (obtain ⟨_, _, _, _, rfl, _⟩ := h; rfl) | (obtain ⟨_, _, _, _, _, rfl, _⟩ := h; rfl) | (obtain ⟨_, _, _, _, _, _, rfl, _⟩ := h; rfl) | (obtain ⟨_, _, _, _, _, _, _, rfl, _⟩ := h; rfl)) ⟨_, fun cdv A outer s H E M X0 hr => w_first_row (BC := He.ga K "Bonds") (P := P) (w := w) (base := base) (g_len := (He.free_ok X G (c.t.d.fact 38 (f := .free "len") rfl))) (c_len_Bonds := c_len_Bonds) _ _ cdv A outer s H E M X0 hr, r_first_row (He.ga K "Bonds")⟩
  have c_first_row : CalD P w K mg base 3 "first_row" false (sp_first_row (He.ga K "Bonds")) := ⟨_, _, ["bonds"], ok_first_row, (He.glo_ok X G (c.t.d.fact 10 (f := .glo "first_row") rfl)), D_first_row.kp, D_first_row.bindsN fun _ _ _ _ _ _ us hl => match us, hl with | [_], _ => rfl⟩
  have ok_pressed : FnOk P w K mg base CX0 1 _ fd_pressed ["bonds", "row", "letter"] (spD K false (sp_pressed (He.ga K "Bonds"))) := okD F_pressed sc_pressed [] (by intro ds k R h; first | (rcases h with ⟨_, _, _, rfl, _⟩ | ⟨rfl, _⟩ <;> rfl) | (obtain ⟨rfl, _⟩ := h; rfl) | (obtain ⟨_, rfl, _⟩ := h; rfl) | (obtain ⟨_, _, rfl, _⟩ := h; rfl) | (obtain ⟨_, _, _, rfl, _⟩ := h; rfl) | (obtain ⟨_, _, _, _, rfl, _⟩ := h; rfl) | (obtain ⟨_, _, _, _, _, rfl, _⟩ := h; rfl) | (obtain ⟨_, _, _, _, _, _, rfl, _⟩ := h; rfl) | (obtain ⟨_, _, _, _, _, _, _, rfl, _⟩ := h; rfl)) ⟨_, fun cdv A outer s H E M X0 hr => w_pressed (BC := He.ga K "Bonds") (P := P) (w := w) (base := base) (g_tuple := (He.free_ok X G (c.t.d.fact 37 (f := .free "tuple") rfl))) (g_zip := (He.free_ok X G (c.t.d.fact 42 (f := .free "zip") rfl))) (g_Bonds := gC) (g_Bonds_weights := gV) _ _ cdv A outer s H E M X0 hr, r_pressed (He.ga K "Bonds")⟩
  have c_pressed : CalD P w K mg base 1 "pressed" false (sp_pressed (He.ga K "Bonds")) := ⟨_, _, ["bonds", "row", "letter"], ok_pressed, (He.glo_ok X G (c.t.d.fact 11 (f := .glo "pressed") rfl)), D_pressed.kp, D_pressed.bindsN fun _ _ _ _ _ _ us hl => match us, hl with | [_, _, _], _ => rfl⟩
  have ok_row_behind : FnOk P w K mg base CX0 4 _ fd_row_behind ["bonds", "letters"] (spD K false (sp_row_behind (He.ga K "Bonds"))) := okD F_row_behind sc_row_behind [] (by intro ds k R h; first | (rcases h with ⟨_, _, _, rfl, _⟩ | ⟨rfl, _⟩ <;> rfl) | (obtain ⟨rfl, _⟩ := h; rfl) | (obtain ⟨_, rfl, _⟩ := h; rfl) | (obtain ⟨_, _, rfl, _⟩ := h; rfl) | (obtain ⟨_, _, _, rfl, _⟩ := h; rfl) | (obtain ⟨_, _, _, _, rfl, _⟩ := h; rfl) | (obtain ⟨_, _, _, _, _, rfl, _⟩ := h; rfl) | (obtain ⟨_, _, _, _, _, _, rfl, _⟩ := h; rfl) | (obtain ⟨_, _, _, _, _, _, _, rfl, _⟩ := h; rfl)) ⟨_, fun cdv A outer s H E M X0 hr => w_row_behind (BC := He.ga K "Bonds") (P := P) (w := w) (base := base) (c_first_row := c_first_row) (c_pressed := c_pressed) _ _ cdv A outer s H E M X0 hr, r_row_behind (He.ga K "Bonds")⟩
  have c_row_behind : CalD P w K mg base 4 "row_behind" false (sp_row_behind (He.ga K "Bonds")) := ⟨_, _, ["bonds", "letters"], ok_row_behind, (He.glo_ok X G (c.t.d.fact 12 (f := .glo "row_behind") rfl)), D_row_behind.kp, D_row_behind.bindsN fun _ _ _ _ _ _ us hl => match us, hl with | [_, _], _ => rfl⟩
  have ok_as_word : FnOk P w K mg base CX0 3 _ fd_as_word ["value", "many"] (spD K false sp_as_word) := okD F_as_word sc_as_word [] (by intro ds k R h; first | (rcases h with ⟨_, _, _, rfl, _⟩ | ⟨rfl, _⟩ <;> rfl) | (obtain ⟨rfl, _⟩ := h; rfl) | (obtain ⟨_, rfl, _⟩ := h; rfl) | (obtain ⟨_, _, rfl, _⟩ := h; rfl) | (obtain ⟨_, _, _, rfl, _⟩ := h; rfl) | (obtain ⟨_, _, _, _, rfl, _⟩ := h; rfl) | (obtain ⟨_, _, _, _, _, rfl, _⟩ := h; rfl) | (obtain ⟨_, _, _, _, _, _, rfl, _⟩ := h; rfl) | (obtain ⟨_, _, _, _, _, _, _, rfl, _⟩ := h; rfl)) ⟨_, fun cdv A outer s H E M X0 hr => w_as_word (P := P) (w := w) (base := base) (g_isinstance := (He.free_ok X G (c.t.d.fact 33 (f := .free "isinstance") rfl))) (g_list := (He.free_ok X G (c.t.d.fact 36 (f := .free "list") rfl))) (g_tuple := (He.free_ok X G (c.t.d.fact 37 (f := .free "tuple") rfl))) (g_len := (He.free_ok X G (c.t.d.fact 38 (f := .free "len") rfl))) (g_MOST_WORD := (He.int_ok X G (c.t.d.fact 47 (f := .int "MOST_WORD" (60)) rfl))) (g_enumerate := (He.free_ok X G (c.t.d.fact 40 (f := .free "enumerate") rfl))) (c_is_letter := c_is_letter) _ _ cdv A outer s H E M X0 hr, r_as_word⟩
  have c_as_word : CalD P w K mg base 3 "as_word" false sp_as_word := ⟨_, _, ["value", "many"], ok_as_word, (He.glo_ok X G (c.t.d.fact 8 (f := .glo "as_word") rfl)), D_as_word.kp, D_as_word.bindsN fun _ _ _ _ _ _ us hl => match us, hl with | [_, _], _ => rfl⟩
  have ok_row_of : FnOk P w K mg base CX0 5 _ fd_row_of ["bonds", "word"] (spD K false (sp_row_of (He.ga K "Bonds"))) := okD F_row_of sc_row_of [] (by intro ds k R h; first | (rcases h with ⟨_, _, _, rfl, _⟩ | ⟨rfl, _⟩ <;> rfl) | (obtain ⟨rfl, _⟩ := h; rfl) | (obtain ⟨_, rfl, _⟩ := h; rfl) | (obtain ⟨_, _, rfl, _⟩ := h; rfl) | (obtain ⟨_, _, _, rfl, _⟩ := h; rfl) | (obtain ⟨_, _, _, _, rfl, _⟩ := h; rfl) | (obtain ⟨_, _, _, _, _, rfl, _⟩ := h; rfl) | (obtain ⟨_, _, _, _, _, _, rfl, _⟩ := h; rfl) | (obtain ⟨_, _, _, _, _, _, _, rfl, _⟩ := h; rfl)) ⟨_, fun cdv A outer s H E M X0 hr => w_row_of (BC := He.ga K "Bonds") (P := P) (w := w) (base := base) (g_len := (He.free_ok X G (c.t.d.fact 38 (f := .free "len") rfl))) (c_row_behind := c_row_behind) (c_as_word := c_as_word) (c_len_Bonds := c_len_Bonds) _ _ cdv A outer s H E M X0 hr, r_row_of (He.ga K "Bonds")⟩
  have c_row_of : CalD P w K mg base 5 "row_of" false (sp_row_of (He.ga K "Bonds")) := ⟨_, _, ["bonds", "word"], ok_row_of, (He.glo_ok X G (c.t.d.fact 13 (f := .glo "row_of") rfl)), D_row_of.kp, D_row_of.bindsN fun _ _ _ _ _ _ us hl => match us, hl with | [_, _], _ => rfl⟩
  have ok_alike : FnOk P w K mg base CX0 6 _ fd_alike ["bonds", "one", "other"] (spD K false (sp_alike (He.ga K "Bonds"))) := okD F_alike sc_alike [] (by intro ds k R h; first | (rcases h with ⟨_, _, _, rfl, _⟩ | ⟨rfl, _⟩ <;> rfl) | (obtain ⟨rfl, _⟩ := h; rfl) | (obtain ⟨_, rfl, _⟩ := h; rfl) | (obtain ⟨_, _, rfl, _⟩ := h; rfl) | (obtain ⟨_, _, _, rfl, _⟩ := h; rfl) | (obtain ⟨_, _, _, _, rfl, _⟩ := h; rfl) | (obtain ⟨_, _, _, _, _, rfl, _⟩ := h; rfl) | (obtain ⟨_, _, _, _, _, _, rfl, _⟩ := h; rfl) | (obtain ⟨_, _, _, _, _, _, _, rfl, _⟩ := h; rfl)) ⟨_, fun cdv A outer s H E M X0 hr => w_alike (BC := He.ga K "Bonds") (P := P) (w := w) (base := base) (c_row_of := c_row_of) _ _ cdv A outer s H E M X0 hr, r_alike (He.ga K "Bonds")⟩
  have c_alike : CalD P w K mg base 6 "alike" false (sp_alike (He.ga K "Bonds")) := ⟨_, _, ["bonds", "one", "other"], ok_alike, (He.glo_ok X G (c.t.d.fact 14 (f := .glo "alike") rfl)), D_alike.kp, D_alike.bindsN fun _ _ _ _ _ _ us hl => match us, hl with | [_, _, _], _ => rfl⟩
  exact ok_law (T := TTof K lamL) (g_range := (He.free_ok X G (c.t.d.fact 39 (f := .free "range") rfl))) (g_int := (He.free_ok X G (c.t.d.fact 34 (f := .free "int") rfl))) (g_tuple := (He.free_ok X G (c.t.d.fact 37 (f := .free "tuple") rfl))) (g_sorted := (He.free_ok X G (c.t.d.fact 41 (f := .free "sorted") rfl))) (g_list := (He.free_ok X G (c.t.d.fact 36 (f := .free "list") rfl))) (c__law_draw := c__law_draw) (c__law_table := c__law_table) (c_Bonds := c_Bonds) (c_choices_of := c_choices_of) (c__law_hangs := c__law_hangs) (c__law_like := c__law_like) (c_hangs_together := c_hangs_together) (c_pieces := c_pieces) (c__law_is_in := c__law_is_in) (c__law_word := c__law_word) (c_alike := c_alike) F_law ok__law_begun (He.glo_ok X G (c.t.d.fact 25 (f := .glo "_law_begun") rfl)) D__law_begun.kp (D__law_begun.bindsN fun _ _ _ _ _ _ us hl => match us, hl with | [_], _ => rfl)
theorem ob_eq (s : PySem.W.SharedT) : ob s = hk.obs s.abs := obsS_eq (HandSHeadRun.getT_eq s)
end BW
set_option maxHeartbeats 0
namespace BW
open PySem PySem.Spec PyProof.Rows L2
theorem run (w : World) : HandSHeadRun.RunEq R (PySem.W.view R.prog [52]) hk ob 6000 names w := PySem.W.byRow2 "special-get-raises" (P := PR) run0 run1 w
end BW
open PySem PySem.W PyProof.Rows
set_option maxRecDepth 100000 in
set_option maxHeartbeats 0 in
theorem PySem.Challenge.cw_bondwords_k56_pieces_holds : PySem.Challenge.rw_bondwords_k56_pieces.Holds := by
  w_on; o_law
  refine HandSHeadRun.head_any (r := OpenLaw.row PySem.Challenge.rw_bondwords_k56_pieces) (q := view (OpenLaw.row PySem.Challenge.rw_bondwords_k56_pieces).prog [52]) (H := BW.hk) (ob := BW.ob) (M := 6000) (loose := BW.names) (d := HandSHeadRun.topDef (OpenLaw.row PySem.Challenge.rw_bondwords_k56_pieces).prog 52) (kwd := []) BW.ob_eq
    (by kernel_rfl) (fun s => by kernel_rfl) BW.run (by kernel_rfl) (by kernel_rfl) (by kernel_rfl) (by rfl) (by first | assumption | decide +kernel) (by decide +kernel) ⟨rfl, rfl, rfl, rfl, rfl, by decide +kernel⟩ ?hw ?hc
  case hw => w_witness2
  case hc =>
    refine L2G.walkGT (l := PySem.Challenge.rw_bondwords_k56_pieces) (n := 63) (k := 7) (x := "script") rfl (by decide) (by kernel_rfl) ⟨rfl, by decide, by decide⟩ ?F
    intro w mz fz hz ⟨K, kin, says⟩ ns0 at0
    have atL : mz ("law" : PySem.Str) = some (.ref fz) := by
      rw [show ("law" : PySem.Str) = (HandSHeadRun.topDef (OpenLaw.row PySem.Challenge.rw_bondwords_k56_pieces).prog 52).name from by kernel_rfl]
      exact at0
    obtain ⟨fd, hb, hF⟩ := BW.facts (P := (PySem.Challenge.rw_bondwords_k56_pieces).prog) (w := w) kin ns0 atL says
    refine ⟨K, fd, BW.spLaw K (DL.TTof K BW.lamL), BW.tfL.map (He.cT K), kin, fun p hp => ?_, fun p hp => ?_, fun p hp => ?_, hb, fun H a ns hl tb hS => ⟨a, ns, rfl, hS, hl, fun p hp => ?_, fun _ => rfl⟩, fun base b1 b2 b3 => hF base b1 b2 fun n hn => b3 _ (List.mem_map.mpr ⟨n, hn, rfl⟩)⟩
    · obtain ⟨n, hn, rfl⟩ := List.mem_map.mp hp
      exact says.empty _ hn
    · obtain ⟨n, hn, rfl⟩ := List.mem_map.mp hp
      exact says.out _ hn
    · obtain ⟨n, hn, rfl⟩ := List.mem_map.mp hp
      exact PySem.W.codeHd_of_K kin (says.hd _ hn)
    · obtain ⟨x, hx, rfl⟩ := List.mem_map.mp hp
      exact tb _ (List.mem_map.mpr ⟨x.1, (show x.1 ∈ BW.lamL.map (·.1) from List.mem_map.mpr ⟨x, hx, rfl⟩), rfl⟩)

