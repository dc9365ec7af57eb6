import PyProof.Rows.All
import Wide.All
import OpenK.AllK
import Wide.FinOn
import KE.KStateDown
import Lean
import HandS.ForMost
import HandS.ForExc
import HandS.Defaults
import HandS.HeadHook2
import PySem.Challenge.RW_lanternhouse_k03_kinds_and_doors_of_hous
import HandS.Head3
import HandS.HeadEnd
import HandS.HeadHook4
import HandS.HeadHook3
import HandS.Codes
import HandS.ReplaceList
import HandS.More
import PyProof.Walk
import PyProof.WalkLemmas
import PyProof.SeqWrite
import PyProof.MeetsSeq
import HandS.Sort
import PyProof.Rows.SetFrom
import PyProof.SetRoads
import PyProof.StrWalks
import PyProof.FactsAll.set_1
import KE.DataMinMax
import PyProof.Rows.CallKwBuiltin
import HandS.Walk
import HandS.Iter
import HandS.Zip
import KE.GoesEnum
import KE.GoesMore
import PyProof.EnumMake
import PyProof.EnumFor
import HandS.IsInst
import HandS.Exc
import HandS.ExcOwn
import HandS.WordsExc
import HandS.RaiseMore
import HandS.FStr
import HandS.TryMany
import HandS.TryOnly
import HandS.ExcIs
import HandS.HeadHook1
import HandS.Comp
import PyProof.StrLawsIn
import HandS.Text
import HandS.ReplaceLit
import HandS.SortInts
import HandS.DictComp
import HandS.MakeKwOnly
import HandS.Conv
set_option Elab.async false
set_option linter.all false
set_option maxRecDepth 100000
set_option maxHeartbeats 4000000
/-! Lanternhouse: words of our own over the hand layer (no program text here). -/
namespace Lh
open PySem PySem.Spec PyProof.Rows L2

/-- a def that the module's name x stands for, and its promise -/
structure Cal (P : Program) (w : World) (K : PySem.W.Frag) (mg : Str → Option Value) (base : Heap) (CX : CXT) (k : Nat) (x : Str) (ps : List Str) (sp : Sp) : Prop where
  ex : ∃ f fd, FnOk P w K mg base CX k f fd ps sp ∧ mg x = some (.ref f) ∧ PySem.W.keepIn K (.ref f) = true ∧ Binds K fd ps []
/-- a def of the top as the head tells it -/
structure Dfn (K : PySem.W.Frag) (mg : Str → Option Value) (x : Str) (st : Stmt) : Prop where
  ex : ∃ f fd, FunD K x x (defArgs st) (defBody st) (defScope st) [] [] f fd ∧ mg x = some (.ref f)

section
variable {P : Program} {w : World} {K : PySem.W.Frag} {mg : Str → Option Value} {base : Heap}
theorem Dfn.cal {CX : CXT} {x : Str} {st : Stmt} {N ps : List Str} {k : Nat} {sp : Sp} (D : Dfn K mg x st) (S : FnScope N ps (defScope st)) (len : ∀ vs H Q E, sp vs H Q E → vs.length = ps.length)
    (hb : ∀ (kV doc pm : Value) (an : Option Addr) (cdv ct : Value) (us : List Value), us.length = ps.length → bindArgs (PySem.W.fnOf x x (defArgs st) (defBody st) (defScope st) .none kV doc pm an cdv ct) ⟨us, []⟩ = pure (ps.zip us))
    (hbody : ∀ (f : Addr) (cdv : Value) (A : Around) (outer : List Env) (s : Shared) (H : Hp) (vs : List V) (Q : VK) (E : XK), Room k (A.deeper (envOfC x (defScope st) s.heap.objs.size f cdv)) → sp vs H Q E →
      ∃ t, PSs (cxOf CX P w K mg base N x (defScope st) f cdv A outer s H E) (defBody st) t ∧ t { nx := fun _ H' => Q .non H', rt := Q } (start N vs) H) : Cal P w K mg base CX (k + 1) x ps sp := by
  obtain ⟨f, fd, F, g⟩ := D.ex
  exact ⟨f, fd, F.ok S len (hbody f), g, F.kp, F.bindsN hb⟩
/-- the same, no exception leaves -/
theorem Dfn.cal0 {x : Str} {st : Stmt} {N ps : List Str} {k : Nat} {sp : Sp} (D : Dfn K mg x st) (S : FnScope N ps (defScope st)) (len : ∀ vs H Q E, sp vs H Q E → vs.length = ps.length)
    (hb : ∀ (kV doc pm : Value) (an : Option Addr) (cdv ct : Value) (us : List Value), us.length = ps.length → bindArgs (PySem.W.fnOf x x (defArgs st) (defBody st) (defScope st) .none kV doc pm an cdv ct) ⟨us, []⟩ = pure (ps.zip us))
    (hbody : ∀ (f : Addr) (cdv : Value) (A : Around) (outer : List Env) (s : Shared) (H : Hp) (vs : List V) (Q : VK) (E : XK), Room k (A.deeper (envOfC x (defScope st) s.heap.objs.size f cdv)) → sp vs H Q E →
      ∃ t, PSs (cxOf CX0 P w K mg base N x (defScope st) f cdv A outer s H E).nox (defBody st) t ∧ t { nx := fun _ H' => Q .non H', rt := Q } (start N vs) H) : Cal P w K mg base CX0 (k + 1) x ps sp :=
  D.cal S len hb fun f cdv A outer s H vs Q E hr h => by
    obtain ⟨t, h1, h2⟩ := hbody f cdv A outer s H vs Q E hr h
    exact ⟨t, h1.nox, h2⟩
theorem Cal.mono {CX : CXT} {x : Str} {ps : List Str} {j k : Nat} {sp : Sp} (C : Cal P w K mg base CX j x ps sp) (h : j ≤ k) : Cal P w K mg base CX k x ps sp := by
  obtain ⟨f, fd, F, g⟩ := C.ex
  exact ⟨f, fd, F.mono h, g⟩
theorem Cal.imp {CX : CXT} {x : Str} {ps : List Str} {k : Nat} {sp sp' : Sp} (C : Cal P w K mg base CX k x ps sp) (h : ∀ vs H Q E, sp' vs H Q E → sp vs H Q E) : Cal P w K mg base CX k x ps sp' := by
  obtain ⟨f, fd, F, g⟩ := C.ex
  exact ⟨f, fd, F.imp h, g⟩
end
section
variable {X : Cx} {x : Str} {ps : List Str} {j k : Nat} {sp : Sp} {e : Expr} {es : List Expr} {p pos : Pos} {t : TA}
/-- f(a, ..): a def that lets no exception out -/
theorem pcl (C : Cal X.prog X.w X.K X.mg X.base CX0 k x ps sp) (hr : Room j X.A) (ha : PA X (e :: es) t) (hk : k ≤ j := by decide) (hg : Gl X x := by rfl) (hdb : (x == ("__debug__" : Str)) = false := by decide)
    (he : starEach (e :: es) X.env = (false, eval e X.env) :: starEach es X.env := by rfl) (hpl : (backTo pos (starEach es X.env)).any (·.1) = false := by rfl) :
    PE X (.Call (.Name x p) (e :: es) [] pos) (tCall sp [] E0 t) := by
  obtain ⟨f, fd, F, g, kp, b⟩ := C.ex
  exact pe_call F (hr.mono hk) hg g kp b .nil pass0 ha hdb he hpl
end

/-! ### heaps -/
theorem same_new {H : Hp} {p : Addr} {o : HO} (hp : H p = none) : Same H (upd H p o) := fun b u e => by
  rw [upd_ne (ne_of_none e hp)]
  exact e
theorem same_upd {H H' : Hp} {p : Addr} {o : HO} (s : Same H H') (hp : H p = none) : Same H (upd H' p o) := fun b u e => by
  rw [upd_ne (ne_of_none e hp)]
  exact s b u e
theorem Same.seqT {K : PySem.W.Frag} {H H' : Hp} {a : Addr} {xs : List V} (e : Same H H') (h : SqT K H a xs) : SqT K H' a xs := by
  rcases h with (h | ⟨o, h⟩) | h
  · exact .inl (.inl (e _ _ h))
  · exact .inl (.inr ⟨o, e _ _ h⟩)
  · exact .inr h

/-! ### rows of draws -/
def RowOk (row ns : List Int) : Prop := row.length = ns.length ∧ ∀ (j : Nat) (z n : Int), row[j]? = some z → ns[j]? = some n → 0 ≤ z ∧ z < n
theorem RowOk.nil : RowOk [] [] := ⟨rfl, fun j z n h => by simp at h⟩
theorem RowOk.more {row ns : List Int} {i : Nat} {z n : Int} (r : RowOk row (ns.take i)) (hn : ns[i]? = some n) (h0 : 0 ≤ z) (h1 : z < n) : RowOk (row ++ [z]) (ns.take (i + 1)) := by
  obtain ⟨rl, rr⟩ := r
  have hi : i < ns.length := (List.getElem?_eq_some_iff.mp hn).1
  have li : row.length = i := by rw [rl, List.length_take]; omega
  refine ⟨by simp [li, List.length_take]; omega, fun j y m h1' h2' => ?_⟩
  by_cases hj : j < i
  · rw [List.getElem?_append_left (by omega)] at h1'
    refine rr j y m h1' ?_
    rw [List.getElem?_take_of_lt (by omega)] at h2'
    rw [List.getElem?_take_of_lt hj]
    exact h2'
  · have hji : j = i := by
      have := (List.getElem?_eq_some_iff.mp h1').1
      simp [li] at this
      omega
    subst hji
    rw [List.getElem?_take_of_lt (by omega), hn] at h2'
    rw [List.getElem?_append_right (by omega), li] at h1'
    simp at h1' h2'
    subst h1' h2'
    exact ⟨h0, h1⟩
theorem RowOk.get {row ns : List Int} (r : RowOk row ns) {j : Nat} {n : Int} (h : ns[j]? = some n) : ∃ z, row[j]? = some z ∧ 0 ≤ z ∧ z < n := by
  have hl := (List.getElem?_eq_some_iff.mp h).1
  have e : row[j]? = some (row[j]'(by rw [r.1]; exact hl)) := List.getElem?_eq_getElem _
  exact ⟨_, e, r.2 j _ n e h⟩
theorem map_get {ns : List Int} {j : Nat} {n : Int} (h : ns[j]? = some n) : (ns.map V.int)[j]? = some (.int n) := by rw [List.getElem?_map, h]; rfl

theorem mp {i j : Int} (h : 0 < j) : (fun (_ : Int) (j : Int) => 0 < j) i j := h
/-! ### readings: a name's slot; a value's form -/
local macro_rules | `(tactic| walk_at "rd1") => `(tactic| first
  | refine ⟨_, rfl, ?_⟩
  | refine ⟨_, _, rfl, rfl, ?_⟩)
local macro_rules | `(tactic| walk_at "rd") => `(tactic| repeat walk_at "rd1")
end Lh
namespace Lh
open PySem PySem.Spec PyProof.Rows L2
/-- what stood stands beside a new object -/
theorem nk {H : Hp} {a p : Addr} {u o : HO} (h : H a = some u) (hp : H p = none) : upd H p o a = some u := by
  rw [upd_ne (ne_of_none h hp)]
  exact h
end Lh
set_option Elab.async false
set_option linter.all false
set_option maxRecDepth 100000
set_option maxHeartbeats 4000000
namespace Lh
open PySem PySem.Spec PyProof.Rows L2
def top (i : Nat) : Stmt := PySem.Challenge.pw_lanternhouse_k03_kinds_and_doors_of_hous.main.body.getD i (.Pass ⟨0, 0, 0, 0⟩)
/-- the built-ins that the text names are those of the boot -/
structure Blt (mg : Str → Option Value) : Prop where
  len : mg "len" = none
  range : mg "range" = none
  int : mg "int" = none
  isinstance : mg "isinstance" = none
  bool : mg "bool" = none
  str : mg "str" = none
  list : mg "list" = none
  tuple : mg "tuple" = none
  all : mg "all" = none
  set : mg "set" = none
  max : mg "max" = none
  sorted : mg "sorted" = none
  enumerate : mg "enumerate" = none
end Lh
set_option Elab.async false
set_option linter.all false
/-! The errors' names, by families. -/
namespace Lh
open PySem
def fam1 : List Str := ["BadDeed", "InvalidText", "NotPossible", "Refused", "InvalidStanding", "InvalidHouse", "UnlikeHands"]
def fam2 : List Str := ["WrongTrades", "NoDoors", "NotEven", "NotOdd", "NotTree", "NotStrict", "NotSwift", "TooFewHands", "NoPair"]
def fam3 : List Str := ["NoCrew", "NoMaster", "NotTogether", "BadSteps", "NotDead", "NotLive", "NotRooted"]
def famA : List Str := ["UnknownPart", "NotThere", "HouseError"]
end Lh
set_option Elab.async false
set_option linter.all false
set_option maxRecDepth 100000
set_option maxHeartbeats 0
namespace Lh.Hd
open PySem PySem.W PySem.Calls PyProof.Rows
open L2
abbrev R : OpenRow := OpenLaw.row PySem.Challenge.rw_lanternhouse_k03_kinds_and_doors_of_hous
abbrev qv : Program := view R.prog [0, 71]
def names0 : List PySem.Str := ["HouseError", "InvalidHouse", "BadDeed", "InvalidText", "NotPossible", "Refused", "InvalidStanding", "UnknownPart", "UnlikeHands", "WrongTrades", "NoDoors", "NotEven", "NotOdd", "NotTree", "NotStrict", "NotSwift", "TooFewHands", "NoPair", "NoCrew", "NoMaster", "NotTogether", "NotThere", "BadSteps", "NotDead", "NotLive", "NotRooted", "far_end", "neighbours_of", "ways_from", "House"]
def names1 : List PySem.Str := ["check_house", "is_letter", "are_trades", "is_door", "hangs_together", "has_room", "has_door", "need_rooms", "need_doors", "cycles_of", "doors_at", "other_end", "longest_cycle", "is_odd", "is_even", "is_strict", "is_tree", "is_swift", "_law_cell", "_law_row", "_law_odd_cycle", "_law_any_cycle", "_law_house", "_law_is_integer", "_law_integers", "_law_guild_house", "_law_guild_cycle", "_law_guild", "_law_drawn", "_law_kinds"]
def names2 : List PySem.Str := ["_law_kinds_right", "_law_doors_at", "_law_other_end", "_law_family", "_law_doors_right", "_law_ends_right"]
def names : List PySem.Str := names0 ++ names1 ++ names2
def fn0 : List He.DefD := [⟨("far_end", none), "far_end", "far_end", defArgs (top 29), defBody (top 29), defScope (top 29), [], []⟩, ⟨("neighbours_of", none), "neighbours_of", "neighbours_of", defArgs (top 30), defBody (top 30), defScope (top 30), [], []⟩, ⟨("ways_from", none), "ways_from", "ways_from", defArgs (top 31), defBody (top 31), defScope (top 31), [], []⟩, ⟨("check_house", none), "check_house", "check_house", defArgs (top 34), defBody (top 34), defScope (top 34), [], []⟩, ⟨("is_letter", none), "is_letter", "is_letter", defArgs (top 35), defBody (top 35), defScope (top 35), [], []⟩, ⟨("are_trades", none), "are_trades", "are_trades", defArgs (top 36), defBody (top 36), defScope (top 36), [], []⟩, ⟨("is_door", none), "is_door", "is_door", defArgs (top 37), defBody (top 37), defScope (top 37), [], []⟩, ⟨("hangs_together", none), "hangs_together", "hangs_together", defArgs (top 38), defBody (top 38), defScope (top 38), [], []⟩, ⟨("has_room", none), "has_room", "has_room", defArgs (top 39), defBody (top 39), defScope (top 39), [], []⟩, ⟨("has_door", none), "has_door", "has_door", defArgs (top 40), defBody (top 40), defScope (top 40), [], []⟩, ⟨("need_rooms", none), "need_rooms", "need_rooms", defArgs (top 41), defBody (top 41), defScope (top 41), [], []⟩, ⟨("need_doors", none), "need_doors", "need_doors", defArgs (top 42), defBody (top 42), defScope (top 42), [], []⟩, ⟨("cycles_of", none), "cycles_of", "cycles_of", defArgs (top 43), defBody (top 43), defScope (top 43), [], []⟩, ⟨("doors_at", none), "doors_at", "doors_at", defArgs (top 44), defBody (top 44), defScope (top 44), [], []⟩, ⟨("other_end", none), "other_end", "other_end", defArgs (top 45), defBody (top 45), defScope (top 45), [], []⟩, ⟨("longest_cycle", none), "longest_cycle", "longest_cycle", defArgs (top 46), defBody (top 46), defScope (top 46), [], []⟩, ⟨("is_odd", none), "is_odd", "is_odd", defArgs (top 47), defBody (top 47), defScope (top 47), [], []⟩, ⟨("is_even", none), "is_even", "is_even", defArgs (top 48), defBody (top 48), defScope (top 48), [], []⟩, ⟨("is_strict", none), "is_strict", "is_strict", defArgs (top 49), defBody (top 49), defScope (top 49), [], []⟩, ⟨("is_tree", none), "is_tree", "is_tree", defArgs (top 50), defBody (top 50), defScope (top 50), [], []⟩]
def fn1 : List He.DefD := [⟨("is_swift", none), "is_swift", "is_swift", defArgs (top 51), defBody (top 51), defScope (top 51), [], []⟩, ⟨("_law_cell", none), "_law_cell", "_law_cell", defArgs (top 53), defBody (top 53), defScope (top 53), [], []⟩, ⟨("_law_row", none), "_law_row", "_law_row", defArgs (top 54), defBody (top 54), defScope (top 54), [], []⟩, ⟨("_law_odd_cycle", none), "_law_odd_cycle", "_law_odd_cycle", defArgs (top 55), defBody (top 55), defScope (top 55), [], []⟩, ⟨("_law_any_cycle", none), "_law_any_cycle", "_law_any_cycle", defArgs (top 56), defBody (top 56), defScope (top 56), [], []⟩, ⟨("_law_house", none), "_law_house", "_law_house", defArgs (top 57), defBody (top 57), defScope (top 57), [], []⟩, ⟨("_law_is_integer", none), "_law_is_integer", "_law_is_integer", defArgs (top 58), defBody (top 58), defScope (top 58), [], []⟩, ⟨("_law_integers", none), "_law_integers", "_law_integers", defArgs (top 59), defBody (top 59), defScope (top 59), [], []⟩, ⟨("_law_guild_house", none), "_law_guild_house", "_law_guild_house", defArgs (top 60), defBody (top 60), defScope (top 60), [], []⟩, ⟨("_law_guild_cycle", none), "_law_guild_cycle", "_law_guild_cycle", defArgs (top 61), defBody (top 61), defScope (top 61), [], []⟩, ⟨("_law_guild", none), "_law_guild", "_law_guild", defArgs (top 62), defBody (top 62), defScope (top 62), [], []⟩, ⟨("_law_drawn", none), "_law_drawn", "_law_drawn", defArgs (top 63), defBody (top 63), defScope (top 63), [], []⟩, ⟨("_law_kinds", none), "_law_kinds", "_law_kinds", defArgs (top 64), defBody (top 64), defScope (top 64), [], []⟩, ⟨("_law_kinds_right", none), "_law_kinds_right", "_law_kinds_right", defArgs (top 65), defBody (top 65), defScope (top 65), [], []⟩, ⟨("_law_doors_at", none), "_law_doors_at", "_law_doors_at", defArgs (top 66), defBody (top 66), defScope (top 66), [], []⟩, ⟨("_law_other_end", none), "_law_other_end", "_law_other_end", defArgs (top 67), defBody (top 67), defScope (top 67), [], []⟩, ⟨("_law_family", none), "_law_family", "_law_family", defArgs (top 68), defBody (top 68), defScope (top 68), [], []⟩, ⟨("_law_doors_right", none), "_law_doors_right", "_law_doors_right", defArgs (top 69), defBody (top 69), defScope (top 69), [], []⟩, ⟨("_law_ends_right", none), "_law_ends_right", "_law_ends_right", defArgs (top 70), defBody (top 70), defScope (top 70), [], []⟩, ⟨("law", none), "law", "law", defArgs (top 71), defBody (top 71), defScope (top 71), [], []⟩]
def fn2 : List He.DefD := [⟨("House", some "__init__"), "__init__", "House.__init__", defArgs (inClass (top 33) 0), defBody (inClass (top 33) 0), defScope (inClass (top 33) 0), [], [("trades", .str "RB")]⟩]
def fn : List He.DefD := fn0 ++ fn1 ++ fn2
def fa0 : List He.Fa := [.glo "far_end", .glo "neighbours_of", .glo "ways_from", .glo "check_house", .glo "is_letter", .glo "are_trades", .glo "is_door", .glo "hangs_together", .glo "has_room", .glo "has_door", .glo "need_rooms", .glo "need_doors", .glo "cycles_of", .glo "doors_at", .glo "other_end", .glo "longest_cycle", .glo "is_odd", .glo "is_even", .glo "is_strict", .glo "is_tree", .glo "is_swift", .glo "_law_cell", .glo "_law_row", .glo "_law_odd_cycle", .glo "_law_any_cycle", .glo "_law_house", .glo "_law_is_integer", .glo "_law_integers", .glo "_law_guild_house", .glo "_law_guild_cycle"]
def fa1 : List He.Fa := [.glo "_law_guild", .glo "_law_drawn", .glo "_law_kinds", .glo "_law_kinds_right", .glo "_law_doors_at", .glo "_law_other_end", .glo "_law_family", .glo "_law_doors_right", .glo "_law_ends_right", .glo "law", .glo "HouseError", .glo "InvalidHouse", .glo "BadDeed", .glo "InvalidText", .glo "NotPossible", .glo "Refused", .glo "InvalidStanding", .glo "UnknownPart", .glo "UnlikeHands", .glo "WrongTrades", .glo "NoDoors", .glo "NotEven", .glo "NotOdd", .glo "NotTree", .glo "NotStrict", .glo "NotSwift", .glo "TooFewHands", .glo "NoPair", .glo "NoCrew", .glo "NoMaster"]
def fa2 : List He.Fa := [.glo "NotTogether", .glo "NotThere", .glo "BadSteps", .glo "NotDead", .glo "NotLive", .glo "NotRooted", .glo "House", .free "len", .free "range", .free "int", .free "isinstance", .free "bool", .free "str", .free "list", .free "tuple", .free "all", .free "set", .free "max", .free "sorted", .free "enumerate", .free "ValueError", .free "sum", .free "min", .free "zip", .free "any", .free "dict", .cls "House", .noat "House" "rooms", .noat "House" "doors", .noat "House" "trades"]
def fa3 : List He.Fa := [.mkr "House", .exc "UnknownPart", .exc "NotThere", .exc "HouseError", .exm "UnknownPart" "UnknownPart" true, .exm "UnknownPart" "NotThere" false, .exm "NotThere" "UnknownPart" false, .exm "NotThere" "NotThere" true, .exm "UnknownPart" "HouseError" true, .exm "NotThere" "HouseError" true]
def fa : List He.Fa := fa0 ++ fa1 ++ fa2 ++ fa3
def exI (K : PySem.W.Frag) (D : Addr) : Bool := He.eqO (PySem.W.findIn K (.ref D) "__getattribute__") (some (some (.builtin "BaseException.__getattribute__"))) && (He.eqO (PySem.W.findIn K (.ref D) "__getattr__") (some none) && (decide (PySem.W.subIn K (.ref D) (.type "BaseException") = some true) && (PySem.W.hasDictIn K D && (He.eqO (PySem.W.findIn K (.ref D) "__class__") (some (some (.builtin "object.__class__"))) && (He.eqO (PySem.W.specialIn K (.builtin "object.__class__") "__get__") (some (some (.builtin "getset_descriptor.__get__"))) && (decide (PySem.W.takesIn K (.builtin "object.__class__") = some true) && decide (PySem.W.mroIn K D (.type "object") = some true)))))))
theorem exI_ok {K : PySem.W.Frag} {D : Addr} (h : exI K D = true) : L2.ExcC K D := by
  obtain ⟨h1, h⟩ := He.ba h
  obtain ⟨h2, h⟩ := He.ba h
  obtain ⟨h3, h⟩ := He.ba h
  obtain ⟨h4, h⟩ := He.ba h
  obtain ⟨h5, h⟩ := He.ba h
  obtain ⟨h6, h⟩ := He.ba h
  obtain ⟨h7, h8⟩ := He.ba h
  exact ⟨He.eqO_ok h1, He.eqO_ok h2, of_decide_eq_true h3, h4, He.eqO_ok h5, He.eqO_ok h6, of_decide_eq_true h7, of_decide_eq_true h8⟩
def kitB2 (K : PySem.W.Frag) (x : PySem.Str) (c : Value) (b : Bool) : Bool := decide (PySem.W.kitOne K (.ref (He.ga K x)) c = some b)
def exB (K : PySem.W.Frag) : Bool := He.eqO (PySem.W.nsIn K mainGlobals "heappop") (some (some (.builtin "_heapq.heappop"))) && (He.eqO (PySem.W.nsIn K mainGlobals "heappush") (some (some (.builtin "_heapq.heappush"))) && (exI K (He.ga K "UnknownPart") && (exI K (He.ga K "NotThere") &&
  (((fam1 ++ fam2 ++ fam3).all fun x => kitB2 K "UnknownPart" (.ref (He.ga K x)) false && kitB2 K "NotThere" (.ref (He.ga K x)) false) && (kitB2 K "UnknownPart" (.type "ValueError") true && (kitB2 K "NotThere" (.type "ValueError") true && (kitB2 K "UnknownPart" (.ref (He.ga K "UnknownPart")) true && (kitB2 K "UnknownPart" (.ref (He.ga K "NotThere")) false && (kitB2 K "NotThere" (.ref (He.ga K "UnknownPart")) false && kitB2 K "NotThere" (.ref (He.ga K "NotThere")) true)))))))))
abbrev hk : PySem.W.Hook := He.hookX 5 fa fn [] [] exB
def ob (s : PySem.W.SharedT) : He.AlX := He.obsX 5 fa fn [] [] exB (HandSHeadRun.getT s)
theorem ob_eq (s : PySem.W.SharedT) : ob s = hk.obs s.abs := He.obsX_eq (HandSHeadRun.getT_eq s)
theorem run (w : World) : HandSHeadRun.RunEqI R qv hk ob 60000 names w := by
  unfold HandSHeadRun.RunEqI
  kernel_rfl
end Lh.Hd
set_option Elab.async false
set_option linter.all false
set_option maxRecDepth 100000
set_option maxHeartbeats 4000000
/-! Texts by their signs; cycles. -/
namespace Lh
open PySem PySem.Spec PyProof.Rows L2 SX
theorem codes (l : List Nat) : (S l).cps.toList = l := by simp [S]
theorem cnt_count (c : Nat) : ∀ l : List Nat, cnt c l = ((l.count c : Nat) : Int)
  | [] => by rw [cnt_nil]; rfl
  | a :: l => by
    rw [cnt_cons, cnt_count c l, List.count_cons]
    by_cases h : a = c
    · subst h
      simp
      omega
    · have h2 : ¬ c = a := fun e => h e.symm
      simp [h, h2]
theorem count_S (l : List Nat) (c : Nat) : Txt.count (S l) (S [c]) = ((l.count c : Nat) : Int) := by
  have e := count_cnt (S l) c
  rw [codes] at e
  rw [← cnt_count]
  exact e
theorem S_le {l : List Nat} (h : l.length ≤ 1000) : (S l).length ≤ sizeLine := by
  rw [S_len]
  exact Nat.le_of_lt (small1000 h)
/-- the letters of a cycle are those of the guild, and each of them occurs -/
def CycOk (g l : List Nat) : Prop := (∀ c ∈ l, c ∈ g) ∧ (∀ c ∈ g, c ∈ l)
/-- row[z], 0 ≤ z < its length -/
theorem row_at {row : List Int} {z : Int} (h0 : 0 ≤ z) (h1 : z < row.length) : ∃ y, atI (row.map V.int) z = some (.int y) ∧ row[z.toNat]? = some y := by
  have hz : z.toNat < row.length := by omega
  refine ⟨row[z.toNat], at_of (j := z.toNat) (by omega) ?_, List.getElem?_eq_getElem hz⟩
  rw [List.getElem?_map, List.getElem?_eq_getElem hz]
  rfl
/-- xs[z], 0 ≤ z < its length -/
theorem any_at {xs : List V} {z : Int} (h0 : 0 ≤ z) (h1 : z < xs.length) : ∃ y, atI xs z = some y ∧ xs[z.toNat]? = some y := by
  have hz : z.toNat < xs.length := by omega
  exact ⟨xs[z.toNat], at_of (j := z.toNat) (by omega) (List.getElem?_eq_getElem hz), List.getElem?_eq_getElem hz⟩
def isRB (c : Nat) : Prop := c = 82 ∨ c = 66
theorem strRB : Str.ofString "RB" = S [82, 66] := by decide +kernel
/-- 'RB'[z % 2] -/
theorem at_RB (z : Int) : ∃ c, atI (Str.ofString "RB").cps.toList (z % 2) = some c ∧ isRB c := by
  have h : z % 2 = 0 ∨ z % 2 = 1 := by omega
  rcases h with h | h
  · rw [h]
    exact ⟨82, by decide +kernel, .inl rfl⟩
  · rw [h]
    exact ⟨66, by decide +kernel, .inr rfl⟩
theorem isRB_append {l : List Nat} {c : Nat} (h : ∀ x ∈ l, isRB x) (hc : isRB c) : ∀ x ∈ l ++ [c], isRB x := fun x hx => by
  rcases List.mem_append.mp hx with q | q
  · exact h x q
  · rw [List.mem_singleton.mp q]
    exact hc
theorem cyc_of {l : List Nat} (h : ∀ x ∈ l, isRB x) (h1 : 82 ∈ l) (h2 : 66 ∈ l) : CycOk [82, 66] l :=
  ⟨fun c hc => by rcases h c hc with rfl | rfl <;> simp, fun c hc => by
    simp at hc
    rcases hc with rfl | rfl
    · exact h1
    · exact h2⟩
/-- letters of two kinds: how many -/
theorem rb_len : ∀ {l : List Nat}, (∀ x ∈ l, isRB x) → l.count 82 + l.count 66 = l.length
  | [], _ => rfl
  | a :: l, h => by
    have ih := rb_len (l := l) fun x hx => h x (List.mem_cons_of_mem _ hx)
    rcases h a List.mem_cons_self with rfl | rfl
    · simp [List.count_cons]; omega
    · simp [List.count_cons]; omega
end Lh
namespace Lh
open PySem PySem.Spec PyProof.Rows L2 SX
theorem vint {a b : Int} (h : decide (V.int a = V.int b) = true) : a = b := V.int.inj (of_decide_eq_true h)
theorem vint_no {a b : Int} (h : ¬ decide (V.int a = V.int b) = true) : a ≠ b := fun e => h (by rw [e]; exact decide_eq_true rfl)
theorem strR : Str.ofString "R" = S [82] := by decide +kernel
theorem strB : Str.ofString "B" = S [66] := by decide +kernel
theorem count_pos_of {l : List Nat} {c : Nat} (h : ((l.count c : Nat) : Int) ≠ 0) : c ∈ l := List.count_pos_iff.mp (by omega)
theorem count_zero_of {l : List Nat} {c : Nat} (h : ((l.count c : Nat) : Int) = 0) : c ∉ l := fun q => by
  have := List.count_pos_iff.mpr q
  omega
end Lh
namespace Lh
open PySem PySem.Spec PyProof.Rows L2 SX
/-- one of two texts: tails[z % 2] -/
theorem at_two {a b : Str} (z : Int) : ∃ t, atI [V.str a, V.str b] (z % 2) = some (.str t) ∧ (t = a ∨ t = b) := by
  have h : z % 2 = 0 ∨ z % 2 = 1 := by omega
  rcases h with h | h
  · rw [h]
    exact ⟨a, rfl, .inl rfl⟩
  · rw [h]
    exact ⟨b, rfl, .inr rfl⟩
end Lh
set_option Elab.async false
set_option linter.all false
set_option maxRecDepth 100000
set_option maxHeartbeats 4000000
/-! Houses as data: doors, what hangs together, doors in the heap. -/
namespace Lh
open PySem PySem.Spec PyProof.Rows L2 SX
/-! ### two lists side by side -/
inductive All2 {α β : Type} (R : α → β → Prop) : List α → List β → Prop
  | nil : All2 R [] []
  | cons {a b l m} : R a b → All2 R l m → All2 R (a :: l) (b :: m)
namespace All2
variable {α β : Type} {R R' : α → β → Prop}
theorem len : ∀ {l : List α} {m : List β}, All2 R l m → l.length = m.length
  | _, _, .nil => rfl
  | _, _, .cons _ t => by rw [List.length_cons, List.length_cons, len t]
theorem app : ∀ {l l' : List α} {m m' : List β}, All2 R l m → All2 R l' m' → All2 R (l ++ l') (m ++ m')
  | _, _, _, _, .nil, h => h
  | _, _, _, _, .cons r t, h => .cons r (app t h)
theorem tak : ∀ {l : List α} {m : List β} (n : Nat), All2 R l m → All2 R (l.take n) (m.take n)
  | _, _, 0, _ => .nil
  | _, _, _ + 1, .nil => .nil
  | _, _, n + 1, .cons r t => .cons r (tak n t)
theorem dro : ∀ {l : List α} {m : List β} (n : Nat), All2 R l m → All2 R (l.drop n) (m.drop n)
  | _, _, 0, h => h
  | _, _, _ + 1, .nil => .nil
  | _, _, n + 1, .cons _ t => dro n t
theorem imp (f : ∀ a b, R a b → R' a b) : ∀ {l : List α} {m : List β}, All2 R l m → All2 R' l m
  | _, _, .nil => .nil
  | _, _, .cons r t => .cons (f _ _ r) (imp f t)
theorem get : ∀ {l : List α} {m : List β} {i : Nat} {b : β}, All2 R l m → m[i]? = some b → ∃ a, l[i]? = some a ∧ R a b
  | _, _, _, _, .nil, h => by simp at h
  | _, _, 0, b, .cons r _, h => by simp at h; subst h; exact ⟨_, rfl, r⟩
  | _, _, i + 1, b, .cons _ t, h => by
    obtain ⟨a, h1, h2⟩ := get (i := i) t (by simpa using h)
    exact ⟨a, by simpa using h1, h2⟩
theorem gtl : ∀ {l : List α} {m : List β} {i : Nat} {a : α}, All2 R l m → l[i]? = some a → ∃ b, m[i]? = some b ∧ R a b
  | _, _, _, _, .nil, h => by simp at h
  | _, _, 0, b, .cons r _, h => by simp at h; subst h; exact ⟨_, rfl, r⟩
  | _, _, i + 1, b, .cons _ t, h => by
    obtain ⟨a, h1, h2⟩ := gtl (i := i) t (by simpa using h)
    exact ⟨a, by simpa using h1, h2⟩
theorem ins {l : List α} {m : List β} (n : Nat) {a : α} {b : β} (h : All2 R l m) (r : R a b) : All2 R (l.take n ++ [a] ++ l.drop n) (m.take n ++ [b] ++ m.drop n) :=
  ((h.tak n).app (.cons r .nil)).app (h.dro n)
theorem put {a : α} {b : β} (r : R a b) : ∀ {l : List α} {m : List β} (n : Nat), All2 R l m → All2 R (l.set n a) (m.set n b)
  | _, _, _, .nil => .nil
  | _, _, 0, .cons _ t => .cons r t
  | _, _, n + 1, .cons q t => .cons q (put r n t)
end All2
theorem ins_perm {α : Type} (l : List α) (n : Nat) (a : α) : (l.take n ++ [a] ++ l.drop n).Perm (a :: l) := by
  rw [List.append_assoc]
  have h : (l.take n ++ a :: l.drop n).Perm (a :: (l.take n ++ l.drop n)) := List.perm_middle
  rw [List.take_append_drop] at h
  exact h
theorem ins_len {α : Type} (l : List α) (n : Nat) (a : α) : (l.take n ++ [a] ++ l.drop n).length = l.length + 1 := by
  rw [(ins_perm l n a).length_eq]
  rfl
theorem ins_mem {α : Type} {l : List α} {n : Nat} {a x : α} : x ∈ l.take n ++ [a] ++ l.drop n ↔ x = a ∨ x ∈ l := by
  rw [(ins_perm l n a).mem_iff, List.mem_cons]
theorem ins_map {α β : Type} (f : α → β) (l : List α) (n : Nat) (a : α) : (l.map f).take n ++ [f a] ++ (l.map f).drop n = (l.take n ++ [a] ++ l.drop n).map f := by
  rw [List.map_append, List.map_append, List.map_take, List.map_drop]
  rfl
/-! ### doors -/
abbrev Door := Int × Int × List Nat
inductive Reach (ds : List Door) : Int → Int → Prop
  | refl (x : Int) : Reach ds x x
  | step {x y z : Int} {c : List Nat} : Reach ds x y → ((y, z, c) ∈ ds ∨ (z, y, c) ∈ ds) → Reach ds x z
theorem Reach.trans {ds : List Door} {x y z : Int} (a : Reach ds x y) (b : Reach ds y z) : Reach ds x z := by
  induction b with
  | refl => exact a
  | step _ h ih => exact .step ih h
theorem Reach.symm {ds : List Door} {x y : Int} (a : Reach ds x y) : Reach ds y x := by
  induction a with
  | refl => exact .refl _
  | step _ h ih => exact (Reach.step (.refl _) h.symm).trans ih
theorem Reach.mono {ds ds' : List Door} {x y : Int} (a : Reach ds x y) (h : ∀ d ∈ ds, ∃ d' ∈ ds', d'.1 = d.1 ∧ d'.2.1 = d.2.1) : Reach ds' x y := by
  induction a with
  | refl => exact .refl _
  | step _ q ih =>
    rcases q with q | q
    · obtain ⟨⟨a, b, c⟩, hd, e1, e2⟩ := h _ q
      cases e1
      cases e2
      exact .step ih (.inl hd)
    · obtain ⟨⟨a, b, c⟩, hd, e1, e2⟩ := h _ q
      cases e1
      cases e2
      exact .step ih (.inr hd)
structure GoodHouse (n : Int) (g : List Nat) (ds : List Door) : Prop where
  n1 : 1 ≤ n
  n16 : n ≤ 16
  len : ds.length ≤ 24
  many : n ≤ ds.length + 1
  ends : ∀ d ∈ ds, 0 ≤ d.1 ∧ d.1 < n ∧ 0 ≤ d.2.1 ∧ d.2.1 < n ∧ d.1 ≠ d.2.1
  cyc : ∀ d ∈ ds, CycOk g d.2.2 ∧ d.2.2.length ≤ 40
  conn : ∀ r, 0 ≤ r → r < n → Reach ds 0 r
/-- a door's tuple -/
def IsDoor (H : Hp) (v : V) (d : Door) : Prop := ∃ r, v = .ref r ∧ H r = some (.tup [.int d.1, .int d.2.1, .str (S d.2.2)])
theorem IsDoor.same {H H' : Hp} (s : Same H H') (v : V) (d : Door) (h : IsDoor H v d) : IsDoor H' v d := by
  obtain ⟨r, e, h⟩ := h
  exact ⟨r, e, s _ _ h⟩
/-! ### the rooms' names: a row of 0 .. k - 1 in some order -/
structure Nm (k : Nat) (xs : List Int) : Prop where
  len : xs.length = k
  mem : ∀ x, x ∈ xs ↔ 0 ≤ x ∧ x < k
  nd : xs.Nodup
theorem Nm.nil : Nm 0 [] := ⟨rfl, fun x => by simp, List.nodup_nil⟩
theorem Nm.more {k : Nat} {xs : List Int} (h : Nm k xs) (n : Nat) : Nm (k + 1) (xs.take n ++ [(k : Int)] ++ xs.drop n) := by
  refine ⟨by rw [ins_len, h.len], fun x => ?_, ?_⟩
  · rw [ins_mem, h.mem]
    omega
  · rw [(ins_perm xs n _).nodup_iff, List.nodup_cons]
    exact ⟨fun q => by have := (h.mem _).mp q; omega, h.nd⟩
theorem Nm.get {k : Nat} {xs : List Int} (h : Nm k xs) {z : Int} (h0 : 0 ≤ z) (h1 : z < k) : ∃ y, atI (xs.map V.int) z = some (.int y) ∧ xs[z.toNat]? = some y ∧ 0 ≤ y ∧ y < k := by
  obtain ⟨y, hy, hy2⟩ := row_at (row := xs) h0 (by rw [h.len]; exact h1)
  exact ⟨y, hy, hy2, (h.mem y).mp (List.mem_of_getElem? hy2)⟩
theorem Nm.ne {k : Nat} {xs : List Int} (h : Nm k xs) {i j : Nat} {x y : Int} (hx : xs[i]? = some x) (hy : xs[j]? = some y) (hij : i ≠ j) : x ≠ y := fun e => by
  subst e
  exact hij (nd_ix h.nd hx hy)
/-! ### the doors that are laid one by one: the first ones join each room to one before it -/
structure Tree (n : Int) (g : List Nat) (m : Int) (xs : List Int) (k : Nat) (ds : List Door) : Prop where
  len : ds.length = k
  ends : ∀ d ∈ ds, 0 ≤ d.1 ∧ d.1 < n ∧ 0 ≤ d.2.1 ∧ d.2.1 < n ∧ d.1 ≠ d.2.1
  cyc : ∀ d ∈ ds, CycOk g d.2.2 ∧ (d.2.2.length : Int) ≤ m
  link : ∀ (j : Nat) (x y : Int), j ≤ k → xs[0]? = some x → xs[j]? = some y → Reach ds x y
theorem Tree.nil {n m : Int} {g : List Nat} {xs : List Int} : Tree n g m xs 0 [] := ⟨rfl, by simp, by simp, fun j x y h hx hy => by
  have : j = 0 := by omega
  subst this
  rw [hx] at hy
  cases hy
  exact .refl _⟩
theorem Tree.more {n m : Int} {g : List Nat} {xs : List Int} {k : Nat} {ds : List Door} (t : Tree n g m xs k ds) (p : Nat) {a b : Int} {c : List Nat} (ha : 0 ≤ a ∧ a < n) (hb : 0 ≤ b ∧ b < n) (hab : a ≠ b) (hc : CycOk g c) (hm : (c.length : Int) ≤ m)
    (hl : ∀ y, xs[k + 1]? = some y → ∃ (j : Nat) (x : Int), j ≤ k ∧ xs[j]? = some x ∧ ((a = x ∧ b = y) ∨ (a = y ∧ b = x))) : Tree n g m xs (k + 1) (ds.take p ++ [(a, b, c)] ++ ds.drop p) := by
  have sub : ∀ {x y : Int}, Reach ds x y → Reach (ds.take p ++ [(a, b, c)] ++ ds.drop p) x y := fun h => h.mono fun d hd => ⟨d, ins_mem.mpr (.inr hd), rfl, rfl⟩
  have new : (a, b, c) ∈ ds.take p ++ [(a, b, c)] ++ ds.drop p := ins_mem.mpr (.inl rfl)
  refine ⟨by rw [ins_len, t.len], fun d hd => ?_, fun d hd => ?_, fun j x y hj hx hy => ?_⟩
  · rcases ins_mem.mp hd with rfl | hd
    · exact ⟨ha.1, ha.2, hb.1, hb.2, hab⟩
    · exact t.ends d hd
  · rcases ins_mem.mp hd with rfl | hd
    · exact ⟨hc, hm⟩
    · exact t.cyc d hd
  · by_cases h : j ≤ k
    · exact sub (t.link j x y h hx hy)
    · have : j = k + 1 := by omega
      subst this
      obtain ⟨i, z, hi, hz, q⟩ := hl y hy
      have r := sub (t.link i x z hi hx hz)
      rcases q with ⟨rfl, rfl⟩ | ⟨rfl, rfl⟩
      · exact r.step (.inl new)
      · exact r.step (.inr new)
theorem Tree.good {n m : Int} {g : List Nat} {xs : List Int} {k : Nat} {ds : List Door} (t : Tree n g m xs k ds) (hn : 1 ≤ n) (hn16 : n ≤ 16) (hx : Nm n.toNat xs) (hk : n ≤ k + 1) (hk24 : k ≤ 24) (hm : m ≤ 40) : GoodHouse n g ds := by
  refine ⟨hn, hn16, by rw [t.len]; exact hk24, by rw [t.len]; exact hk, t.ends, fun d hd => ⟨(t.cyc d hd).1, by have := (t.cyc d hd).2; omega⟩, fun r h0 h1 => ?_⟩
  have e0 : xs[0]? = some (xs[0]'(by rw [hx.len]; omega)) := List.getElem?_eq_getElem _
  have get : ∀ r : Int, 0 ≤ r → r < n → Reach ds (xs[0]'(by rw [hx.len]; omega)) r := fun r h0 h1 => by
    obtain ⟨j, hj⟩ := List.getElem?_of_mem ((hx.mem r).mpr ⟨h0, by omega⟩)
    have hjl : j < xs.length := (List.getElem?_eq_some_iff.mp hj).1
    rw [hx.len] at hjl
    exact t.link j _ r (by omega) e0 hj
  exact (get 0 (by omega) (by omega)).symm.trans (get r h0 h1)
end Lh
namespace Lh
theorem far_ne {n x z : Int} (hx0 : 0 ≤ x) (hx : x < n) (hz0 : 0 ≤ z) (hz : z < n - 1) : (x + 1 + z) % n ≠ x := by
  by_cases h : x + 1 + z < n
  · rw [Int.emod_eq_of_lt (by omega) h]
    omega
  · have e : (x + 1 + z) % n = (x + 1 + z - n) % n := (Int.sub_emod_right _ _).symm
    rw [e, Int.emod_eq_of_lt (by omega) (by omega)]
    omega
end Lh
namespace Lh
open PySem PySem.Spec PyProof.Rows L2 SX
theorem IsDoor.keep {H : Hp} {p : Addr} {o : HO} (hp : ∀ xs, H p ≠ some (.tup xs)) (v : V) (d : Door) (h : IsDoor H v d) : IsDoor (upd H p o) v d := by
  obtain ⟨r, e, h⟩ := h
  refine ⟨r, e, ?_⟩
  rw [upd_ne (fun q => hp _ (by rw [← q]; exact h))]
  exact h
end Lh
set_option Elab.async false
set_option linter.all false
set_option maxRecDepth 100000
set_option maxHeartbeats 4000000
/-! The heap of pairs of ints: heappush and heappop as rules of the layer; their order is left open. -/
namespace Lh
open PySem PySem.Spec PyProof.Rows L2
theorem lt_pairs {prog : Program} {w : World} {A : Around} {E : Value → Shared → Prop} {s : Shared} {l b : Addr} {items items2 : Array Value} {ns ms : List Int} {Q : Value → Shared → Prop} (hl : IsTup s.heap l items) (hb : IsTup s.heap b items2) (hi : IntsAre items.toList ns) (hj : IntsAre items2.toList ms)
    (hu : A.units < cLine) (h : Q (.bool (HT.lexLt ns ms)) s) : wpAny (model prog w) A (richCompare .Lt (.ref l) (.ref b)) Q E s :=
  HT.lt_tupInts hl hb hi hj hu h
abbrev lobj (items : Array Value) (n : Nat) : Obj := { cls := .type "list", dict := none, data := .seq items n, slots := #[] }
/-- v is a tuple of ints -/
def TupI (h : Heap) (v : Value) : Prop := ∃ (t : Addr) (its : Array Value) (ns : List Int), v = .ref t ∧ IsTup h t its ∧ IntsAre its.toList ns
theorem TupI.keep {h h' : Heap} {v : Value} {l : Addr} {items : Array Value} {n : Nat} (hl : h.get? l = some (lobj items n)) (k : ∀ b u, b ≠ l → h.get? b = some u → h'.get? b = some u) (t : TupI h v) : TupI h' v := by
  obtain ⟨t, its, ns, e, ⟨o, ho, hc, m, hd⟩, hi⟩ := t
  refine ⟨t, its, ns, e, ⟨o, ?_, hc, m, hd⟩, hi⟩
  refine k _ _ (fun q => ?_) ho
  rw [q, hl] at ho
  cases ho
  exact absurd (Value.type.inj hc) (by decide)
theorem less_pairs {prog : Program} {w : World} {A : Around} {E : Value → Shared → Prop} {s : Shared} {x y : Value} {Q : Value → Shared → Prop} (hx : TupI s.heap x) (hy : TupI s.heap y)
    (hu : A.units < cLine) (h : ∀ b : Bool, Q (.bool b) s) : wpAny (model prog w) A (richCompare .Lt x y) Q E s := by
  obtain ⟨t, its, ns, rfl, h1, h2⟩ := hx
  obtain ⟨t', its', ns', rfl, h3, h4⟩ := hy
  exact lt_pairs h1 h3 h2 h4 hu (h _)
/-- the list at l rearranged, all else as before -/
structure Moved (h : Heap) (l : Addr) (items : List Value) (h' : Heap) : Prop where
  at_ : ∃ (its : Array Value) (n : Nat), its.toList.Perm items ∧ h'.get? l = some (lobj its n)
  keep : ∀ b u, b ≠ l → h.get? b = some u → h'.get? b = some u
theorem Moved.trans {h h1 h2 : Heap} {l : Addr} {a b : List Value} (m : Moved h1 l b h2) (p : b.Perm a) (k : ∀ b u, b ≠ l → h.get? b = some u → h1.get? b = some u) : Moved h l a h2 := by
  obtain ⟨⟨its, n, q, e⟩, k2⟩ := m
  exact ⟨⟨its, n, q.trans p, e⟩, fun b u hb hu => k2 b u hb (k b u hb hu)⟩
theorem swap_perm (xs : Array Value) (i j : Nat) (hi : i < xs.size) (hj : j < xs.size) : ((xs.setIfInBounds i xs[j]!).setIfInBounds j xs[i]!).toList.Perm xs.toList := by
  have e1 : xs[j]! = xs[j] := getElem!_pos xs j hj
  have e2 : xs[i]! = xs[i] := getElem!_pos xs i hi
  have e : (xs.setIfInBounds i xs[j]!).setIfInBounds j xs[i]! = xs.swap i j hi hj := by
    rw [e1, e2]
    apply Array.ext_getElem?
    intro k
    simp only [Array.getElem?_setIfInBounds, Array.getElem?_swap, Array.size_setIfInBounds]
    by_cases a : j = k
    · subst a
      simp [hj]
    · by_cases b : i = k
      · subst b
        have : ¬ i = j := fun q => a q.symm
        simp [a, hi]
      · simp [a, b]
  rw [e]
  exact Array.perm_iff_toList_perm.mp (Array.swap_perm hi hj)
def siftSpec (l : Addr) (items : Array Value) (n : Nat) (res : Value) : PySem.Spec := fun A R s => s.heap.get? l = some (lobj items n) ∧ (∀ v ∈ items, TupI s.heap v) ∧ A.in1.units < cLine ∧ items.size ≤ sizeLine ∧
  ∀ h', Moved s.heap l items.toList h' → R (.ok (.ret res)) { s with heap := h' }
theorem plain_sift : plainId "_heapq.heapify.sift" = true := by decide +kernel
theorem entry_sift : entryFor table "_heapq.heapify.sift" = some Builtin.«_heapq.heapify.sift» := entryFor_of_tree (by kernel_rfl)
theorem again_sift {prog : Program} {w : World} {A : Around} {R : Result → Shared → Prop} {s : Shared} {args : Args} {S : PySem.Spec} (g : Meets (Builtin.«_heapq.heapify.sift» args) S) (h : S A R s) :
    (Code.builtin "_heapq.heapify.sift" args).quiet = true ∧ codeAny (model prog w) A (.builtin "_heapq.heapify.sift" args) R s :=
  ⟨plainId_quiet plain_sift _, codeAny_builtin entry_sift (by rw [Around.under_plainId plain_sift args]; exact g prog w A R s h)⟩
theorem swapped {h : Heap} {l : Addr} {items : Array Value} {n : Nat} (hl : h.get? l = some (lobj items n)) (F : Array Value → Array Value) : (h.update l (Obj.mapSeq F)).get? l = some (lobj (F items) (if ((F items).size == items.size) = true then n else n + 1)) := PySem.IsL.update hl F
theorem sift (l : Addr) (res : Value) : ∀ (m : Nat) (down : Bool) (pos top : Nat) (items : Array Value) (n : Nat), (if down = true then 2 * items.size + 1 - pos else pos) < m → pos < items.size →
    Meets (Builtin.«_heapq.heapify.sift» ⟨[.ref l, .bool false, .bool down, rawInt pos, rawInt top, res, rawInt (-1)], []⟩) (siftSpec l items n res) := by
  intro m
  induction m with
  | zero =>
    intro down pos top items n hm hp prog w A R s h
    exact absurd hm (Nat.not_lt_zero _)
  | succ m ih =>
    intro down pos top items n hm hp prog w A R s h
    obtain ⟨hp, g, d, tk, os⟩ := s
    obtain ⟨hl, ha, hu, hz, hR⟩ := h
    have get : ∀ i, i < items.size → items[i]? = some items[i]! := fun i hi => by rw [getElem!_pos items i hi]; exact Array.getElem?_eq_getElem hi
    have tup : ∀ i, i < items.size → TupI hp items[i]! := fun i hi => ha _ (by rw [getElem!_pos items i hi]; exact Array.getElem_mem hi)
    -- behind a swap
    have nxt : ∀ (i j : Nat) (down' : Bool) (top' : Nat), i < items.size → j < items.size → (if down' = true then 2 * items.size + 1 - i else i) < m →
        (Code.builtin "_heapq.heapify.sift" ⟨[.ref l, .bool false, .bool down', rawInt i, rawInt top', res, rawInt (-1)], []⟩).quiet = true ∧
        codeAny (model prog w) A (.builtin "_heapq.heapify.sift" ⟨[.ref l, .bool false, .bool down', rawInt i, rawInt top', res, rawInt (-1)], []⟩) R
          { heap := hp.update l (Obj.mapSeq fun xs => (xs.setIfInBounds i items[j]!).setIfInBounds j items[i]!), gens := g, drawn := d, toks := tk, os := os } := by
      intro i j down' top' hi hj hm'
      have sz : ((items.setIfInBounds i items[j]!).setIfInBounds j items[i]!).size = items.size := by simp
      have pm := swap_perm items i j hi hj
      have kp : ∀ b u, b ≠ l → hp.get? b = some u → (hp.update l (Obj.mapSeq fun xs => (xs.setIfInBounds i items[j]!).setIfInBounds j items[i]!)).get? b = some u := fun b u hb hu => (Heap.get?_update_ne _ _ _ _ hb).trans hu
      refine again_sift (ih down' i top' ((items.setIfInBounds i items[j]!).setIfInBounds j items[i]!) _ (by rw [sz]; exact hm') (by rw [sz]; exact hi)) ⟨swapped hl _, fun v hv => ?_, hu, by rw [sz]; exact hz, fun h' mv => hR h' (mv.trans pm kp)⟩
      exact (ha v (Array.mem_toList_iff.mp (pm.mem_iff.mp (Array.mem_toList_iff.mpr hv)))).keep hl kp
    have szs : ∀ (i j : Nat) (x y : Value), ((fun xs : Array Value => (xs.setIfInBounds i x).setIfInBounds j y) items).size ≤ sizeLine + 1 := fun i j x y => by simp; omega
    have hl' : ({ heap := hp, gens := g, drawn := d, toks := tk, os := os } : Shared).heap.get? l = some (lobj items n) := hl
    cases down with
    | true =>
      rw [if_pos rfl] at hm
      wp_walk
      simp only [Int.toNat_natCast]
      by_cases c1 : pos < items.size / 2
      · wp_walk
        by_cases c2 : 2 * pos + 1 + 1 < items.size
        · wp_walk
          rw [get (2 * pos + 1) (by omega)]
          wp_walk
          rw [get (2 * pos + 1 + 1) (by omega)]
          wp_walk using (less_pairs (tup _ (by omega)) (tup _ (by omega)) hu)
          intro b
          cases b
          · wp_walk
            rw [get (2 * pos + 1 + 1) (by omega)]
            wp_walk
            rw [get pos (by omega)]
            wp_walk using (wpAny_updateSeq hl' rfl (hz := hz) (_hz' := szs _ _ _ _))
            exact nxt (2 * pos + 1 + 1) pos true top (by omega) (by omega) (by rw [if_pos rfl]; omega)
          · wp_walk
            rw [get (2 * pos + 1) (by omega)]
            wp_walk
            rw [get pos (by omega)]
            wp_walk using (wpAny_updateSeq hl' rfl (hz := hz) (_hz' := szs _ _ _ _))
            exact nxt (2 * pos + 1) pos true top (by omega) (by omega) (by rw [if_pos rfl]; omega)
        · wp_walk
          rw [get (2 * pos + 1) (by omega)]
          wp_walk
          rw [get pos (by omega)]
          wp_walk using (wpAny_updateSeq hl' rfl (hz := hz) (_hz' := szs _ _ _ _))
          exact nxt (2 * pos + 1) pos true top (by omega) (by omega) (by rw [if_pos rfl]; omega)
      · wp_walk
        refine again_sift (ih false pos top items n (by rw [if_neg (by decide)]; omega) (by omega)) ⟨hl, ha, hu, hz, hR⟩
    | false =>
      rw [if_neg (by decide)] at hm
      wp_walk
      simp only [Int.toNat_natCast]
      have done : R (.ok (.ret res)) { heap := hp, gens := g, drawn := d, toks := tk, os := os } := hR hp ⟨⟨items, n, List.Perm.refl _, hl⟩, fun _ _ _ z => z⟩
      by_cases c1 : pos > top
      · wp_walk
        rw [get pos (by omega)]
        wp_walk
        rw [get ((pos - 1) / 2) (by omega)]
        wp_walk using (less_pairs (tup _ (by omega)) (tup _ (by omega)) hu)
        intro b
        cases b
        · wp_walk
          exact done
        · wp_walk
          rw [get ((pos - 1) / 2) (by omega)]
          wp_walk
          rw [get pos (by omega)]
          wp_walk using (wpAny_updateSeq hl' rfl (hz := hz) (_hz' := szs _ _ _ _))
          exact nxt ((pos - 1) / 2) pos false top (by omega) (by omega) (by rw [if_neg (by decide)]; omega)
      · wp_walk
        exact done
end Lh
set_option Elab.async false
set_option linter.all false
set_option maxRecDepth 100000
set_option maxHeartbeats 4000000
namespace Lh
open PySem PySem.Spec PyProof.Rows L2
theorem plain_push : plainId "_heapq.heappush" = true := by decide +kernel
theorem entry_push : entryFor table "_heapq.heappush" = some Builtin.«_heapq.heappush» := entryFor_of_tree (by kernel_rfl)
theorem plain_pop : plainId "_heapq.heappop" = true := by decide +kernel
theorem entry_pop : entryFor table "_heapq.heappop" = some Builtin.«_heapq.heappop» := entryFor_of_tree (by kernel_rfl)
theorem kind_push : builtinKind "_heapq.heappush" = none := by decide +kernel
theorem kind_pop : builtinKind "_heapq.heappop" = none := by decide +kernel
theorem args_push (a b : Value) : argsOk "_heapq.heappush" ⟨[a, b], []⟩ := by
  unfold argsOk
  rfl
theorem args_pop (a : Value) : argsOk "_heapq.heappop" ⟨[a], []⟩ := by
  unfold argsOk
  rfl

theorem sub_list : isSubtype (.type "list") (.type "list") = pure true := by rw [isSubtype_type]; kernel_rfl
def pushSpec (l : Addr) (items : Array Value) (n : Nat) (x : Value) : PySem.Spec := fun A R s => s.heap.get? l = some (lobj items n) ∧ (∀ v ∈ items, TupI s.heap v) ∧ TupI s.heap x ∧ A.in1.units < cLine ∧ items.size + 1 ≤ sizeLine ∧
  ∀ h', Moved s.heap l (items.toList ++ [x]) h' → R (.ok (.ret .none)) { s with heap := h' }
theorem meets_push (l : Addr) (items : Array Value) (n : Nat) (x : Value) : Meets (Builtin.«_heapq.heappush» ⟨[.ref l, x], []⟩) (pushSpec l items n x) := by
  intro prog w A R s h
  obtain ⟨hp, g, d, tk, os⟩ := s
  obtain ⟨hl, ha, hx, hu, hz, hR⟩ := h
  have hl' : ({ heap := hp, gens := g, drawn := d, toks := tk, os := os } : Shared).heap.get? l = some (lobj items n) := hl
  have hT : ({ heap := hp, gens := g, drawn := d, toks := tk, os := os } : Shared).TypeIs (.ref l) "list" := ⟨_, hl, rfl⟩
  have hs := sub_list
  have hz0 : items.size ≤ sizeLine := by omega
  have hz1 : (items.push x).size ≤ sizeLine + 1 := by simp; omega
  have kp : ∀ b u, b ≠ l → hp.get? b = some u → (hp.update l (Obj.mapSeq fun xs => xs.push x)).get? b = some u := fun b u hb hu => (Heap.get?_update_ne _ _ _ _ hb).trans hu
  wp_walk using (wpAny_updateSeq hl' rfl (hz := hz0) (_hz' := hz1))
  have h2 : (hp.update l (Obj.mapSeq fun xs => xs.push x)).get? l = some (lobj (items.push x) _) := PySem.IsL.update hl fun xs => xs.push x
  wp_walk using (wpAny_seqItems h2 rfl)
  have e : (items.push x).size - 1 = items.size := by simp
  rw [e]
  refine again_sift (sift l .none (items.size + 1) false items.size 0 (items.push x) _ (by rw [if_neg (by decide)]; omega) (by rw [Array.size_push]; omega)) ⟨h2, fun v hv => ?_, hu, by rw [Array.size_push]; omega, fun h' mv => hR h' (mv.trans (show (items.push x).toList.Perm (items.toList ++ [x]) by rw [Array.toList_push]) kp)⟩
  rcases Array.mem_push.mp hv with q | q
  · exact (ha v q).keep hl kp
  · rw [q]
    exact hx.keep hl kp
def popSpec (l : Addr) (items : Array Value) (n : Nat) : PySem.Spec := fun A R s => s.heap.get? l = some (lobj items n) ∧ (∀ v ∈ items, TupI s.heap v) ∧ A.in1.units < cLine ∧ items.size ≤ sizeLine ∧ 0 < items.size ∧
  ∀ h' v rest, (v :: rest).Perm items.toList → Moved s.heap l rest h' → R (.ok (.ret v)) { s with heap := h' }
theorem meets_pop (l : Addr) (items : Array Value) (n : Nat) : Meets (Builtin.«_heapq.heappop» ⟨[.ref l], []⟩) (popSpec l items n) := by
  intro prog w A R s h
  obtain ⟨hp, g, d, tk, os⟩ := s
  obtain ⟨hl, ha, hu, hz, h0, hR⟩ := h
  have hl' : ({ heap := hp, gens := g, drawn := d, toks := tk, os := os } : Shared).heap.get? l = some (lobj items n) := hl
  have hT : ({ heap := hp, gens := g, drawn := d, toks := tk, os := os } : Shared).TypeIs (.ref l) "list" := ⟨_, hl, rfl⟩
  have hs := sub_list
  obtain ⟨its, x, rfl⟩ : ∃ its x, items = Array.push its x := Array.eq_push_of_size_ne_zero (by omega)
  have kp : ∀ b u, b ≠ l → hp.get? b = some u → (hp.update l (Obj.mapSeq fun xs => xs.pop)).get? b = some u := fun b u hb hu => (Heap.get?_update_ne _ _ _ _ hb).trans hu
  have hz1 : ((fun xs : Array Value => xs.pop) (its.push x)).size ≤ sizeLine + 1 := by simp at hz ⊢; omega
  wp_walk using (wpAny_seqItems hl' rfl)
  have eb : (its.push x).back? = some x := by simp
  rw [eb]
  wp_walk using (wpAny_updateSeq hl' rfl (hz := hz) (_hz' := hz1))
  have h2 : (hp.update l (Obj.mapSeq fun xs => xs.pop)).get? l = some (lobj its (if (its.size == (its.push x).size) = true then n else n + 1)) := by
    have q := PySem.IsL.update hl fun xs => xs.pop
    simp only [Array.pop_push] at q
    exact q
  by_cases c : its.size = 0
  · have e0 : its = #[] := Array.eq_empty_of_size_eq_zero c
    subst e0
    rw [if_pos (by simp)]
    wp_walk
    exact hR _ x [] (by simp) ⟨⟨_, _, List.Perm.refl _, h2⟩, kp⟩
  · rw [if_neg (by simp; exact fun q => c (by rw [q]; rfl))]
    have e1 : (its.push x)[0]? = some its[0]! := by
      rw [getElem!_pos its 0 (by omega), Array.getElem?_push_lt (by omega)]
    wp_walk
    rw [e1]
    have hz2 : its.size ≤ sizeLine := by simp at hz; omega
    have hz3 : ((fun xs : Array Value => xs.setIfInBounds 0 x) its).size ≤ sizeLine + 1 := by simp; omega
    have kp2 : ∀ b u, b ≠ l → hp.get? b = some u → ((hp.update l (Obj.mapSeq fun xs => xs.pop)).update l (Obj.mapSeq fun xs => xs.setIfInBounds 0 x)).get? b = some u := fun b u hb hu => (Heap.get?_update_ne _ _ _ _ hb).trans (kp b u hb hu)
    wp_walk using (wpAny_updateSeq h2 rfl (hz := hz2) (_hz' := hz3))
    have h3 : ((hp.update l (Obj.mapSeq fun xs => xs.pop)).update l (Obj.mapSeq fun xs => xs.setIfInBounds 0 x)).get? l = some (lobj (its.setIfInBounds 0 x) _) := PySem.IsL.update h2 fun xs => xs.setIfInBounds 0 x
    have hi : 0 < its.size := by omega
    have sz : (its.setIfInBounds 0 x).size = its.size := by simp
    refine again_sift (sift l its[0]! (2 * its.size + 2) true 0 0 (its.setIfInBounds 0 x) _ (by rw [if_pos rfl, sz]; omega) (by rw [sz]; exact hi)) ⟨h3, fun v hv => ?_, hu, by rw [sz]; exact hz2, fun h' mv => hR h' its[0]! (its.setIfInBounds 0 x).toList ?_ (mv.trans (List.Perm.refl _) kp2)⟩
    · have : v ∈ its.push x := by
        rcases Array.getElem_of_mem hv with ⟨i, hi2, e⟩
        rw [sz] at hi2
        by_cases i0 : i = 0
        · subst i0
          simp at e
          rw [← e]
          simp
        · rw [Array.getElem_setIfInBounds_ne (by omega) (fun q => i0 q.symm)] at e
          rw [← e]
          exact Array.mem_push.mpr (.inl (Array.getElem_mem _))
      exact (ha v this).keep hl kp2
    · rw [getElem!_pos its 0 hi, Array.toList_push]
      obtain ⟨ls⟩ := its
      cases ls with
      | nil => simp at hi
      | cons a r =>
        simp
        exact (List.perm_append_singleton x r).symm
end Lh

namespace Lh
open PySem PySem.Spec PyProof.Rows L2
/-! ### as rules of the layer -/
def rPush : List V → Hp → VK → Prop := fun vs H Q => ∃ (l : Addr) (xs : List V) (x : V), vs = [.ref l, x] ∧ H l = some (.lst xs) ∧ xs.length < sizeLine ∧ (∀ y ∈ xs ++ [x], ∃ (t : Addr) (i j : Int), y = .ref t ∧ H t = some (.tup [.int i, .int j])) ∧
  ∀ ys, ys.Perm (xs ++ [x]) → Q .non (upd H l (.lst ys))
def rPop : List V → Hp → VK → Prop := fun vs H Q => ∃ (l : Addr) (xs : List V), vs = [.ref l] ∧ H l = some (.lst xs) ∧ xs ≠ [] ∧ (∀ y ∈ xs, ∃ (t : Addr) (i j : Int), y = .ref t ∧ H t = some (.tup [.int i, .int j])) ∧
  ∀ v ys, (v :: ys).Perm xs → Q v (upd H l (.lst ys))
section
variable {X : Cx} {pins : List (Addr × Obj)} {σ : L2.St} {H : Hp} {s : Shared}
theorem tupI_of (I : Inv X pins σ H s) {t : Addr} {i j : Int} {u : Value} (h : H t = some (.tup [.int i, .int j])) (r : RelV (.ref t) u) : TupI s.heap u := by
  obtain ⟨its, rv, ht, _⟩ := I.tuple (SqT.of h)
  obtain rfl : u = Value.ref t := r
  have e : [V.int i, V.int j] = ([i, j] : List Int).map V.int := rfl
  rw [e] at rv
  exact ⟨t, its.toArray, [i, j], rfl, ht, intsAre_of rv⟩
/-- values that are references, and those that are them -/
theorem vals_perm {xs : List V} {its its' : List Value} (hx : ∀ y ∈ xs, ∃ t : Addr, y = .ref t) (r : Vals xs its) (p : its'.Perm its) : ∃ ys, ys.Perm xs ∧ Vals ys its' := by
  obtain ⟨e1, e2⟩ := refs_back r hx
  refine ⟨its'.map backV, ?_, vals_back fun u hu => e2 u (p.mem_iff.mp hu)⟩
  rw [e1]
  exact p.map backV
theorem moved_write (I : Inv X pins σ H s) {l : Addr} {xs ys : List V} {its : List Value} {h' : Heap} {t' : Nat} (hH : H l = some (.lst xs)) (m : Moved s.heap l its h') (hx : ∀ y ∈ ys, ∃ t : Addr, y = .ref t) (r : Vals ys its) (hz : ys.length ≤ sizeLine) :
    ∃ zs, zs.Perm ys ∧ Inv X pins σ (upd H l (.lst zs)) { s with heap := h', toks := t' } := by
  obtain ⟨⟨its', n, p, e⟩, k⟩ := m
  obtain ⟨zs, pz, rz⟩ := vals_perm hx r p
  refine ⟨zs, pz, I.write (x := l) (e := l) (by rw [hH]; exact trivial) (.inl rfl) k ⟨_, e⟩ ⟨by rw [pz.length_eq]; exact hz, its'.toList, n, rz, ?_⟩⟩
  rw [e]
theorem tups_of (I : Inv X pins σ H s) {xs : List V} {its : List Value} (hp : ∀ y ∈ xs, ∃ (t : Addr) (i j : Int), y = .ref t ∧ H t = some (.tup [.int i, .int j])) (r : Vals xs its) : ∀ w ∈ its, TupI s.heap w := fun w hw => by
  obtain ⟨e1, e2⟩ := refs_back r fun y hy => by
    obtain ⟨t, _, _, e, _⟩ := hp y hy
    exact ⟨t, e⟩
  obtain ⟨a, rfl⟩ := e2 w hw
  have hm : V.ref a ∈ xs := by rw [e1]; exact List.mem_map.mpr ⟨_, hw, rfl⟩
  obtain ⟨t, i, j, e, ht⟩ := hp _ hm
  cases e
  exact tupI_of I ht rfl
theorem call_push (hu : X.A.in1.units < cLine) : CallR X (.builtin "_heapq.heappush") rPush := by
  intro pins s σ H vs us Q I r h
  obtain ⟨l, xs, x, rfl, hl, hz, hp, q⟩ := h
  obtain ⟨u, v, rfl, ru, rv⟩ := vals2 r
  obtain rfl : u = Value.ref l := ru
  obtain ⟨z, its, n, ri, hlen, e⟩ := I.lstM hl
  have all : Vals (xs ++ [x]) (its ++ [v]) := ri.append (.cons rv .nil)
  have tup := tups_of I hp all
  have hxr : ∀ y ∈ xs ++ [x], ∃ t : Addr, y = .ref t := fun y hy => by
    obtain ⟨t, _, _, e, _⟩ := hp y hy
    exact ⟨t, e⟩
  refine call_function_meets kind_push plain_push entry_push (args_push _ _) (meets_push l its.toArray n v) ⟨e, fun w hw => tup w (by simp at hw; simp [hw]), tup v (by simp), hu, by rw [List.size_toArray]; omega, fun h' m => ?_⟩
  obtain ⟨zs, pz, J⟩ := moved_write (t' := s.toks) I hl m hxr all (by rw [List.length_append, List.length_singleton]; omega)
  exact ⟨.non, _, J, rfl, q zs pz⟩
theorem call_pop (hu : X.A.in1.units < cLine) : CallR X (.builtin "_heapq.heappop") rPop := by
  intro pins s σ H vs us Q I r h
  obtain ⟨l, xs, rfl, hl, hne, hp, q⟩ := h
  obtain ⟨u, rfl, ru⟩ := vals1 r
  obtain rfl : u = Value.ref l := ru
  obtain ⟨z, its, n, ri, hlen, e⟩ := I.lstM hl
  have tup := tups_of I hp ri
  have hxr : ∀ y ∈ xs, ∃ t : Addr, y = .ref t := fun y hy => by
    obtain ⟨t, _, _, e, _⟩ := hp y hy
    exact ⟨t, e⟩
  have h0 : 0 < xs.length := List.length_pos_iff.mpr hne
  refine call_function_meets kind_pop plain_pop entry_pop (args_pop _) (meets_pop l its.toArray n) ⟨e, fun w hw => tup w (by simpa using hw), hu, by rw [List.size_toArray]; omega, by rw [List.size_toArray]; omega, fun h' v rest p m => ?_⟩
  obtain ⟨zs, pz, rz⟩ := vals_perm hxr ri p
  cases rz with
  | cons rv rr =>
    rename_i y ys
    have hyr : ∀ w ∈ ys, ∃ t : Addr, w = .ref t := fun w hw => hxr w (pz.mem_iff.mp (List.mem_cons_of_mem _ hw))
    have hl2 : ys.length ≤ sizeLine := by
      have := pz.length_eq
      simp at this
      omega
    obtain ⟨ws, pw, J⟩ := moved_write (t' := s.toks) I hl m hyr rr hl2
    exact ⟨y, _, J, rv, q y ws ((List.Perm.cons y pw).trans pz)⟩
/-- a name of the module that holds a built-in function, called -/
theorem pe_callG {x : Str} {id : String} {e : Expr} {es : List Expr} {p pos : Pos} {t : TA} {r : List V → Hp → VK → Prop} (hc : CallR X (.builtin id) r) (hg : Gl X x) (hm : X.mg x = some (.builtin id)) (ha : PA X (e :: es) t) (hdb : (x == ("__debug__" : Str)) = false := by decide)
    (he : starEach (e :: es) X.env = (false, eval e X.env) :: starEach es X.env := by rfl) (hpl : (backTo pos (starEach es X.env)).any (·.1) = false := by rfl) : PE X (.Call (.Name x p) (e :: es) [] pos) (tCB r t) := by
  refine ⟨fun pins s σ H Q I h => ?_⟩
  refine wpAny_Call_Name_kw (ld_glob I hg hm ?_ hdb)
  exact PyProof.Rows.callWith_builtin1 (thn (ha.run pos pins s σ H _ I h) fun us s1 ⟨vs, H1, I1, r1, q1⟩ => hc pins s1 σ H1 vs us Q I1 r1 q1) he hpl
end
end Lh
set_option Elab.async false
set_option linter.all false
set_option maxRecDepth 100000
set_option maxHeartbeats 4000000
/-! The set of a text's signs. -/
namespace LhS
open PySem PyProof.Rows
/-- S holds what f gives below i, m of them -/
def Col (f : Nat → Str) (i : Nat) (S : Str → Bool) (m : Nat) : Prop := ∃ l : List Str, l.Nodup ∧ l.length = m ∧ m ≤ i ∧ (∀ k, S k = true ↔ k ∈ l) ∧ (∀ k, k ∈ l ↔ ∃ j, j < i ∧ f j = k)
theorem Col.zero (f : Nat → Str) : Col f 0 (fun _ => false) 0 := ⟨[], List.nodup_nil, rfl, Nat.zero_le _, fun k => by simp, fun k => by simp⟩
theorem Col.succ {f : Nat → Str} {i m : Nat} {S : Str → Bool} (c : Col f i S m) : Col f (i + 1) (fun k => S k || decide (k = f i)) (if S (f i) = true then m else m + 1) := by
  obtain ⟨l, nd, hl, hle, hS, hm⟩ := c
  by_cases e : S (f i) = true
  · have hin := (hS _).mp e
    refine ⟨l, nd, by rw [if_pos e]; exact hl, by rw [if_pos e]; omega, fun k => ?_, fun k => ?_⟩
    · rw [Bool.or_eq_true, hS, decide_eq_true_eq]
      exact ⟨fun q => q.elim id fun q => q ▸ hin, .inl⟩
    · rw [hm]
      constructor
      · rintro ⟨j, hj, q⟩
        exact ⟨j, by omega, q⟩
      · rintro ⟨j, hj, q⟩
        by_cases hji : j = i
        · subst hji
          exact (hm k).mp (q ▸ hin)
        · exact ⟨j, by omega, q⟩
  · have hout : f i ∉ l := fun q => e ((hS _).mpr q)
    refine ⟨f i :: l, List.nodup_cons.mpr ⟨hout, nd⟩, by rw [if_neg e]; simp [hl], by rw [if_neg e]; omega, fun k => ?_, fun k => ?_⟩
    · rw [Bool.or_eq_true, hS, decide_eq_true_eq, List.mem_cons]
      exact ⟨Or.symm, Or.symm⟩
    · rw [List.mem_cons, hm]
      constructor
      · rintro (q | ⟨j, hj, q⟩)
        · exact ⟨i, by omega, q.symm⟩
        · exact ⟨j, by omega, q⟩
      · rintro ⟨j, hj, q⟩
        by_cases hji : j = i
        · subst hji
          exact .inl q.symm
        · exact .inr ⟨j, by omega, q⟩
theorem Col.le {f : Nat → Str} {i m : Nat} {S : Str → Bool} (c : Col f i S m) : m ≤ i := by
  obtain ⟨l, -, -, hle, -⟩ := c
  exact hle
theorem keyStr (prog : Program) (w : World) (k : Str) (u : Tok) : (strKind prog w).is k (.str k u) = true := by
  show Value.isStrOf k (.str k u) = true
  simp [Value.isStrOf]
section
variable {prog : Program} {w : World} {A : Around} {R : Result → Shared → Prop} {it : Addr} {fp wr : List Addr} {G : Array GenState → Array GenState → Prop} {n : Nat} {P : Nat → Value → Prop} {St : Nat → Shared → Prop}
theorem fill (W : WalksS prog w A.in1 it fp wr G n P St) (a : Addr) (hf : a ∉ fp) (f : Nat → Str) (hv : ∀ i v, P i v → ∃ t, v = .str (f i) t) (hb : n + 1 < scanBound) : ∀ (k i : Nat) (s : Shared) (S : Str → Bool) (m : Nat), n - i = k → i ≤ n → St i s → s.heap.SetOf (strKind prog w) a S m → Col f i S m →
    (∀ s' S' m', Moved (a :: wr) G s s' → s'.heap.SetOf (strKind prog w) a S' m' → Col f n S' m' → R (.ok (.ret .none)) s') → codeAny (model prog w) A (.builtin "set.update.loop" ⟨[.ref a, .ref it], []⟩) R s := by
  have hw : a ∉ wr := fun z => hf (W.sub _ z)
  have more : ∀ b ∈ wr, b ∈ a :: wr := fun b z => List.mem_cons_of_mem _ z
  intro k
  induction k with
  | zero =>
    intro i s S m hk hi st hS c kR
    obtain rfl : i = n := by omega
    refine codeAny_builtin F.entry_set_update_loop (by
      rw [Around.under_plainId F.plain_set_update_loop _]
      show wpAny _ A.in1 (pyNext (.ref it) >>= _) _ _ s
      refine wpAny_bind (W.done s _ _ st fun s' mv => ?_)
      obtain ⟨o, es, ep, t, ho, r⟩ := hS
      exact wpAny_pure (kR s' S m (mv.mono more) ⟨o, es, ep, t, mv.heap a _ hw ho, r⟩ c))
  | succ k ih =>
    intro i s S m hk hi st hS c kR
    have lt : i < n := by omega
    refine codeAny_builtin F.entry_set_update_loop ?_
    rw [Around.under_plainId F.plain_set_update_loop _]
    show wpAny _ A.in1 (pyNext (.ref it) >>= _) _ _ s
    refine wpAny_bind (W.item i s _ _ lt st fun v s' hP st' mv => ?_)
    obtain ⟨t, rfl⟩ := hv i v hP
    obtain ⟨o, es, ep, tb, ho, r⟩ := hS
    have hS1 : s'.heap.SetOf (strKind prog w) a S m := ⟨o, es, ep, tb, mv.heap a _ hw ho, r⟩
    show wpAny _ A.in1 (holding [Value.str (f i) t] (setAdd a (.str (f i) t)) >>= _) _ _ s'
    refine wpAny_bind (wpAny_holding ?_)
    unfold setAdd
    refine wpAny_holding (wpAny_bind ((strKind prog w).pyHash (k := f i) (keyStr prog w _ _) ?_))
    refine wpAny_setAddHashed_of (knd := strKind prog w) (s := { s' with toks := s'.toks + 1 }) (keyStr prog w _ _) rfl hS1 (by have := c.le; omega) fun h' sb hS2 => ?_
    refine wpAny_pure ⟨plainId_quiet F.plain_set_update_loop _, ih (i + 1) _ _ _ (by omega) lt (W.frame _ s' _ _ st' (Nat.le_succ _) fun b z o e => ?_) hS2 c.succ fun s'' S' m' mv2 hS3 c3 => kR s'' S' m' ?_ hS3 c3⟩
    · rw [sb.2 b (fun q : b = a => hf (by rw [← q]; exact z))]
      exact e
    · refine Moved.trans W.gtrans ((mv.mono more).then_heap (Nat.le_succ _) fun b o z e => ?_) mv2
      rw [sb.2 b (fun q : b = a => z (by rw [q]; exact List.mem_cons_self))]
      exact e
end
end LhS
set_option Elab.async false
set_option linter.all false
set_option maxRecDepth 100000
set_option maxHeartbeats 8000000
namespace LhS
open PySem PyProof.Rows
def sgn (x : Str) (i : Nat) : Str := ⟨#[x.cps.getD i 0]⟩
theorem sgn_at {x : Str} {i : Nat} {v : Value} (h : SignAt x i v) : ∃ t, v = .str (sgn x i) t := by
  obtain ⟨c, u, hc, rfl⟩ := h
  refine ⟨u, ?_⟩
  unfold sgn
  rw [Array.getD_eq_getD_getElem?, hc]
  rfl
theorem sub_txt_set : isSubtype (.type "str") (.type "set") = pure false := by
  rw [isSubtype_type]
  kernel_rfl
theorem sub_txt_froz : isSubtype (.type "str") (.type "frozenset") = pure false := by
  rw [isSubtype_type]
  kernel_rfl
abbrev setObj0 (led : Bool) : Obj := { cls := .type "set", dict := none, data := .set #[] 0 (.fresh 0 0 led) }
section
variable {prog : Program} {w : World} {A : Around} {E : Value → Shared → Prop} {s : Shared}
theorem mk_set {x : Str} {u : Tok} {Q : Value → Shared → Prop} (hh : A.handled = none) (hb : x.cps.size + 1 < scanBound)
    (kQ : ∀ (h' : Heap) (tk : Nat) (S : Str → Bool) (m : Nat), h'.SetOf (strKind prog w) s.heap.objs.size S m → Col (sgn x) x.cps.size S m → (∀ b o, b < s.heap.objs.size → s.heap.get? b = some o → h'.get? b = some o) → Q (.ref s.heap.objs.size) { s with heap := h', toks := tk }) :
    wpAny (model prog w) A (call (.type "set") [.str x u]) Q E s := by
  obtain ⟨c, tl, hmro⟩ := F.called_set.mro
  have hmade := F.called_set.made
  have hsub := F.called_set.sub
  refine wpAny_call (codeAny_of_tree ?_)
  show wpAny _ _ (callAny (.type "set") _) _ _ _
  refine wpAny_pure ⟨Code.quiet_builtin _ (by decide +kernel), codeAny_builtin F.entry_type_call ?_⟩
  rw [Around.under_plain (weight_type_call_type "set" [.str x u] []) rfl]
  have hnT := F.called_set.notType
  have hcC := F.called_set.canCreate
  have hcall := F.typeCall_set_1 (.str x u)
  repeat (any_goals (first | assumption | wp_step))
  refine codeAny_mono (code_set_new_1 (.str x u) (E := E) (Q₁ := fun obj s1 => ∃ led : Bool, obj = .ref s.heap.objs.size ∧ s1 = { s with heap := s.heap.push (setObj0 led) }) fun led => ⟨led, rfl, rfl⟩) fun r s1 hr => ?_
  cases r with
  | error e => exact hr
  | ok fl =>
    cases fl with
    | ret obj =>
      obtain ⟨led, rfl, rfl⟩ := hr
      have hS := Heap.get?_push_size (o := setObj0 led) s.heap rfl
      have hT : Shared.TypeIs { s with heap := s.heap.push (setObj0 led) } (.ref s.heap.objs.size) "set" := ⟨_, hS, rfl⟩
      have hlook := F.called_set.init.lookup
      have hbind := F.called_set.init.bind (.ref s.heap.objs.size)
      repeat (any_goals (first | assumption | wp_step))
      refine codeAny_mono (codeAny_call_builtin (R := wants (fun r s2 => r = .none ∧ ∃ (h' : Heap) (tk : Nat) (S : Str → Bool) (m : Nat), s2 = { s with heap := h', toks := tk } ∧ h'.SetOf (strKind prog w) s.heap.objs.size S m ∧ Col (sgn x) x.cps.size S m ∧ (∀ b o, b < s.heap.objs.size → s.heap.get? b = some o → h'.get? b = some o)) E) F.called_set.init.plain F.entry_set_init (check_set_init_1 hT ?_)) fun r2 s2 hr2 => ?_
      · have n1 := sub_txt_set
        have n2 := sub_txt_froz
        have n3 : (Value.type "str" == Value.type "dict") = false := by decide
        unfold Builtin.«set.__init__» noKeywords Builtin.Frozenset.updateFrom
        generalize hPI : pyIter = PI
        wp_walk
        subst hPI
        refine wpAny_pyIter_str fun o St W st0 => ?_
        refine wpAny_bind (wpAny_runValue ?_)
        have hsz : (s.heap.push (setObj0 led)).objs.size = s.heap.objs.size + 1 := Heap.size_push _ _
        have hne : s.heap.objs.size ∉ [(s.heap.push (setObj0 led)).objs.size] := by
          rw [hsz, List.mem_singleton]
          exact Nat.ne_of_lt (Nat.lt_succ_self _)
        have hS0 : ((s.heap.push (setObj0 led)).push o).get? s.heap.objs.size = some (setObj0 led) := Heap.get?_push_of_some _ hS
        refine fill (W _ (by simp [hh])).toS s.heap.objs.size hne (sgn x) (fun i v q => sgn_at q) hb x.cps.size 0 _ (fun _ => false) 0 rfl (Nat.zero_le _) st0
          (PyProof.Rows.SetOf_congr ((PyProof.Rows.setObjOf_fresh (knd := strKind prog w) led).setOf hS0 (by unfold scanBound; omega)) (fun _ => rfl) rfl) (Col.zero _) fun s' S m mv hS' cl => ?_
        obtain ⟨h', g', d', tk', os'⟩ := s'
        obtain rfl : g' = s.gens := mv.gens
        obtain rfl : d' = s.drawn := mv.drawn
        obtain rfl : os' = s.os := mv.os
        refine wpAny_pure (wpAny_pure ⟨rfl, h', tk', S, m, rfl, hS', cl, fun b u hb e => ?_⟩)
        refine mv.heap b u ?_ (Heap.get?_push_of_some _ (Heap.get?_push_of_some _ e))
        rw [hsz]
        simp only [List.mem_cons, List.not_mem_nil, or_false, not_or]
        exact ⟨Nat.ne_of_lt hb, Nat.ne_of_lt (Nat.lt_succ_of_lt hb)⟩
      · cases r2 with
        | error e => exact hr2
        | ok fl2 =>
          cases fl2 with
          | ret r =>
            obtain ⟨rfl, h', tk, S, m, rfl, q1, q2, q3⟩ := hr2
            repeat (any_goals (first | assumption | wp_step))
            exact kQ _ _ S m q1 q2 q3
          | _ => exact hr2.elim
    | _ => exact hr.elim
end
end LhS
set_option Elab.async false
set_option linter.all false
set_option maxRecDepth 100000
set_option maxHeartbeats 8000000
namespace LhS
open PySem PyProof.Rows
section
variable {prog : Program} {w : World} {A : Around} {E : Value → Shared → Prop} {s : Shared}
theorem txt_of {k : Str} {x : Value} (hk : (PySem.strKind prog w).is k x = true) : ∃ u, x = .str k u := by
  have h : Value.isStrOf k x = true := hk
  cases x <;> first | (simp [Value.isStrOf] at h; done) | skip
  rename_i y u
  refine ⟨u, ?_⟩
  have : y = k := by simpa [Value.isStrOf] using h
  rw [this]
theorem walkUnseen_txt {a b : Addr} {oa ob : Obj} {ea eb : Array (Int × Value)} {pa pb : Nat} {ta tb : SetTable} (ha : s.heap.get? a = some oa) (da : oa.data = .set ea pa ta) (fa : ta.fits ea.size = true) (la : ElemsOf (PySem.strKind prog w) ea.toList)
    (hb : s.heap.get? b = some ob) (db : ob.data = .set eb pb tb) (fb : tb.fits eb.size = true) (lb : ElemsOf (PySem.strKind prog w) eb.toList) {Q : List (Int × Value) → Shared → Prop} (h : Q ea.toList s) :
    wpAny (model prog w) A (Builtin.Frozenset.walkUnseen a b) Q E s := by
  unfold Builtin.Frozenset.walkUnseen
  refine wpAny_bind (wpAny_setEntries_of ha da fa ?_)
  refine wpAny_bind (wpAny_setEntries_of hb db fb ?_)
  have all : ∀ e ∈ ea.toList ++ eb.toList, ∃ k u, e.2 = Value.str k u := fun e he => by
    rcases List.mem_append.mp he with q | q
    · obtain ⟨k, hk⟩ := la.keys e q
      obtain ⟨u, hu⟩ := txt_of hk
      exact ⟨k, u, hu⟩
    · obtain ⟨k, hk⟩ := lb.keys e q
      obtain ⟨u, hu⟩ := txt_of hk
      exact ⟨k, u, hu⟩
  generalize hL : ea.toList ++ eb.toList = L at all ⊢
  refine wpAny_bind ?_
  clear hL
  induction L with
  | nil =>
    rw [List.forIn_nil]
    exact wpAny_pure (wpAny_pure h)
  | cons e L ih =>
    rw [List.forIn_cons]
    obtain ⟨k, u, hu⟩ := all e List.mem_cons_self
    obtain ⟨z, x⟩ := e
    obtain rfl : x = Value.str k u := hu
    refine wpAny_bind ?_
    show wpAny _ _ (Builtin.Frozenset.quietEq (Value.str k u) >>= _) _ _ _
    refine wpAny_bind (wpAny_pure ?_)
    refine wpAny_pure ?_
    exact ih fun e he => all e (List.mem_cons_of_mem _ he)
theorem subset_txt {nm : String} {a b : Addr} {S T : Str → Bool} {m n : Nat} (hS : s.heap.SetOf (PySem.strKind prog w) a S m) (hT : s.heap.SetOf (PySem.strKind prog w) b T n) {Q : Bool → Shared → Prop} (hmn : m ≤ n) (h : ∀ k : Bool, (k = true ↔ ∀ x, S x = true → T x = true) → Q k s) :
    wpAny (model prog w) A (Builtin.Frozenset.subsetOf nm a b) Q E s := by
  obtain ⟨oa, ea, pa, ta, ha, xa, da, la, ma, ba, fa, na⟩ := id hS
  obtain ⟨ob, eb, pb, tb, hb, xb, db, lb, mb, bb, fb, nb⟩ := id hT
  unfold Builtin.Frozenset.subsetOf Builtin.Frozenset.sizeOf
  refine wpAny_bind (wpAny_bind (wpAny_setEntries_of ha da fa (wpAny_pure ?_)))
  refine wpAny_bind (wpAny_bind (wpAny_setEntries_of hb db fb (wpAny_pure ?_)))
  rw [if_neg (by omega)]
  refine wpAny_bind (wpAny_setEpoch_of ha da fa ?_)
  refine wpAny_bind (walkUnseen_txt ha da fa la hb db fb lb ?_)
  refine wpAny_bind ?_
  have hK : ∀ e ∈ ea.toList, ∃ k u, e.2 = Value.str k u ∧ e.1 = (PySem.strKind prog w).hash k := fun e he => by
    obtain ⟨⟨k, hk, hh⟩, _⟩ := la e he
    obtain ⟨u, hu⟩ := txt_of hk
    exact ⟨k, u, hu, hh⟩
  have main : ∀ (L : List (Int × Value)), (∀ e ∈ L, e ∈ ea.toList) → ∀ Q' : Option Bool × Unit → Shared → Prop,
      ((∀ e ∈ L, ∀ k u, e.2 = Value.str k u → T k = true) → Q' (none, ()) s) → ((∃ e ∈ L, ∃ k u, e.2 = Value.str k u ∧ T k = false) → Q' (some false, ()) s) →
      wpAny (model prog w) A (forIn L ((none, ()) : Option Bool × Unit) fun x __s =>
        match x with
        | (h, x) => do
          let r ← holding [x] (setFind b x h)
          if r.isNone = true then pure (ForInStep.done (some false, ()))
            else do
              Builtin.Frozenset.unchanged nm a pa
              pure (ForInStep.yield (none, ()))) Q' E s := by
    intro L
    induction L with
    | nil =>
      intro _ Q' h1 _
      rw [List.forIn_nil]
      exact wpAny_pure (h1 fun e he => absurd he (by simp))
    | cons e L ih =>
      intro hL Q' h1 h2
      rw [List.forIn_cons]
      obtain ⟨k, u, hu, hh⟩ := hK e (hL e List.mem_cons_self)
      obtain ⟨z, x⟩ := e
      obtain rfl : x = Value.str k u := hu
      obtain rfl : z = (PySem.strKind prog w).hash k := hh
      refine wpAny_bind ?_
      refine wpAny_bind (wpAny_holding (wpAny_setFind_of (knd := PySem.strKind prog w) (keyStr prog w k u) rfl hT fun r hr => ?_))
      cases hk : T k with
      | false =>
        rw [hk] at hr
        have : r = none := by cases r <;> simp at hr ⊢
        rw [this]
        refine wpAny_pure (wpAny_pure (h2 ⟨_, List.mem_cons_self, k, u, rfl, hk⟩))
      | true =>
        rw [hk] at hr
        have : r.isNone = false := by cases r <;> simp at hr ⊢
        rw [this]
        refine wpAny_bind ?_
        unfold Builtin.Frozenset.unchanged
        refine wpAny_bind (wpAny_setEpoch_of ha da fa ?_)
        rw [bne_self_eq_false]
        refine wpAny_pure (wpAny_pure ?_)
        refine ih (fun e he => hL e (List.mem_cons_of_mem _ he)) Q' (fun q => h1 fun e he k' u' hu' => ?_) fun ⟨e, he, q⟩ => h2 ⟨e, List.mem_cons_of_mem _ he, q⟩
        rcases List.mem_cons.mp he with rfl | he
        · cases hu'
          exact hk
        · exact q e he k' u' hu'
  refine main ea.toList (fun _ z => z) _ (fun q => wpAny_pure (h true ⟨fun _ x hx => ?_, fun _ => rfl⟩)) fun q => wpAny_pure (h false ⟨(fun z => by cases z), fun z => ?_⟩)
  · obtain ⟨e, he, hk⟩ := (ma x).mp hx
    obtain ⟨u, hu⟩ := txt_of hk
    exact q e he x u hu
  · obtain ⟨e, he, k, u, hu, hk⟩ := q
    have : S k = true := (ma k).mpr ⟨e, he, by rw [hu]; exact keyStr prog w k u⟩
    rw [z k this] at hk
    cases hk
end
end LhS
set_option Elab.async false
set_option linter.all false
set_option maxRecDepth 100000
set_option maxHeartbeats 8000000
namespace LhS
open PySem PyProof.Rows
theorem entry_eq : entryFor table "set.__eq__" = some Builtin.«frozenset.__eq__» := entryFor_alias (id' := "frozenset.__eq__") (by kernel_rfl) rfl (by decide +kernel) (by kernel_rfl)
theorem set_set : isSubtype (.type "set") (.type "set") = pure true := by
  rw [isSubtype_type]
  kernel_rfl
theorem set_froz : isSubtype (.type "set") (.type "frozenset") = pure false := by
  rw [isSubtype_type]
  kernel_rfl
section
variable {prog : Program} {w : World} {A : Around} {R : Result → Shared → Prop} {s : Shared}
theorem eq_sets {a b : Addr} {S T : Str → Bool} {m n : Nat} (hS : s.heap.SetOf (PySem.strKind prog w) a S m) (hT : s.heap.SetOf (PySem.strKind prog w) b T n) (h : ∀ k : Bool, (k = true ↔ m = n ∧ ∀ x, S x = true → T x = true) → R (.ok (.ret (.bool k))) s) :
    wpAny (model prog w) A.in1 (Builtin.«frozenset.__eq__» ⟨[.ref a, .ref b], []⟩) (fun fin s' => ∃ v, fin = .done (.ret v) ∧ R (.ok (.ret v)) s') (fun e s' => R (.error e) s') s := by
  have hS' := hS
  have hT' := hT
  obtain ⟨oa, ea, pa, ta, ha, xa, da, la, ma, ba, fa, na⟩ := hS
  obtain ⟨ob, eb, pb, tb, hb, xb, db, lb, mb, bb, fb, nb⟩ := hT
  obtain ⟨ca, dca, dta, sla⟩ := oa
  obtain ⟨cb, dcb, dtb, slb⟩ := ob
  obtain ⟨rfl, rfl, rfl⟩ := xa
  obtain ⟨rfl, rfl, rfl⟩ := xb
  simp only at da db
  subst da db
  have tA : s.TypeIs (.ref a) "set" := ⟨_, ha, rfl⟩
  have tB : s.TypeIs (.ref b) "set" := ⟨_, hb, rfl⟩
  have n1 := set_set
  have n2 := set_froz
  have f1 : ta.place.size = ea.size := by
    simp only [SetTable.fits, Bool.and_eq_true, beq_iff_eq] at fa
    exact fa.1
  have f2 : ta.fill ≤ ta.mask := by
    simp only [SetTable.fits, Bool.and_eq_true, decide_eq_true_eq] at fa
    exact fa.2
  have f3 : tb.place.size = eb.size := by
    simp only [SetTable.fits, Bool.and_eq_true, beq_iff_eq] at fb
    exact fb.1
  have f4 : tb.fill ≤ tb.mask := by
    simp only [SetTable.fits, Bool.and_eq_true, decide_eq_true_eq] at fb
    exact fb.2
  obtain ⟨hp, g, d, tk, os⟩ := s
  unfold Builtin.«frozenset.__eq__»
  wp_walk
  by_cases c : ea.size = eb.size
  · rw [if_neg (by simp [c])]
    have hmn : m ≤ n := by omega
    wp_walk using (subset_txt hS' hT' hmn)
    intro k hk
    wp_walk
    exact ⟨_, rfl, h k ⟨fun q => ⟨by omega, hk.mp q⟩, fun q => hk.mpr q.2⟩⟩
  · rw [if_pos (by simp [c])]
    wp_walk
    exact ⟨_, rfl, h false ⟨(fun z => by cases z), fun z => absurd (na.symm ▸ nb.symm ▸ z.1) c⟩⟩
end
end LhS
namespace Lh
open PySem PySem.Spec PyProof.Rows L2
/-- the set of texts at a -/
def SetT (P : Program) (w : World) (a : Addr) (S : Str → Bool) (n : Nat) : HO := .ext fun h => h.SetOf (PySem.strKind P w) a S n
section
variable {X : Cx}
theorem setT_at {P : Program} {w : World} {h h' : Heap} {a : Addr} {S : Str → Bool} {n : Nat} (R : h.SetOf (PySem.strKind P w) a S n) (k : ∀ o, h.get? a = some o → h'.get? a = some o) : h'.SetOf (PySem.strKind P w) a S n := by
  obtain ⟨o, es, ep, t, ho, r⟩ := R
  exact ⟨o, es, ep, t, k o ho, r⟩
theorem setT_new {w : World} {P : Program} {H : Hp} {h : Heap} {a : Addr} {S : Str → Bool} {n : Nat} (R : h.SetOf (PySem.strKind P w) a S n) : ObjOk P w H h a (SetT P w a S n) := by
  have ⟨o, _, _, _, ho, _⟩ := R
  exact ⟨R, ⟨o, ho⟩, fun h1 h2 p k => setT_at p k⟩
/-- set(a text) -/
def rSetTxt (P : Program) (w : World) : List V → Hp → VK → Prop := fun vs H Q => ∃ l : List Nat, vs = [.str (SX.S l)] ∧ l.length ≤ 1000 ∧ ∀ (p : Addr) (S : Str → Bool) (n : Nat), H p = none → (∃ ks : List Nat, ks.Nodup ∧ ks.length = n ∧ (∀ c, c ∈ ks ↔ c ∈ l) ∧ ∀ k, S k = true ↔ ∃ c ∈ ks, k = SX.S [c]) → Q (.ref p) (upd H p (SetT P w p S n))
theorem col_codes {l : List Nat} {S : Str → Bool} {n : Nat} (c : LhS.Col (LhS.sgn (SX.S l)) (SX.S l).cps.size S n) : ∃ ks : List Nat, ks.Nodup ∧ ks.length = n ∧ (∀ c, c ∈ ks ↔ c ∈ l) ∧ ∀ k, S k = true ↔ ∃ c ∈ ks, k = SX.S [c] := by
  obtain ⟨L, nd, hl, -, hS, hm⟩ := c
  have hsz : (SX.S l).cps.size = l.length := by simp [SX.S]
  rw [hsz] at hm
  have hg : ∀ j, j < l.length → LhS.sgn (SX.S l) j = SX.S [l.getD j 0] := fun j hj => by
    simp [LhS.sgn, SX.S, hj]
  have one : ∀ k ∈ L, k = SX.S [k.cps.getD 0 0] ∧ k.cps.getD 0 0 ∈ l := fun k hk => by
    obtain ⟨j, hj, e⟩ := (hm k).mp hk
    rw [hg j hj] at e
    rw [← e]
    refine ⟨by simp [SX.S], ?_⟩
    simp [SX.S, hj]
  have inj : ∀ a b : Nat, SX.S [a] = SX.S [b] → a = b := fun a b e => by
    have := congrArg (fun z : Str => z.cps.toList) e
    simpa [SX.S] using this
  have mk : ∀ c, c ∈ L.map (fun k => k.cps.getD 0 0) ↔ c ∈ l := fun c => by
    rw [List.mem_map]
    constructor
    · rintro ⟨k, hk, rfl⟩
      exact (one k hk).2
    · intro hc
      obtain ⟨j, hj, rfl⟩ := List.getElem_of_mem hc
      refine ⟨SX.S [l[j]], (hm _).mpr ⟨j, hj, ?_⟩, by simp [SX.S]⟩
      rw [hg j hj]
      simp [hj]
  refine ⟨L.map fun k => k.cps.getD 0 0, ?_, by rw [List.length_map, hl], mk, fun k => ?_⟩
  · refine List.pairwise_map.mpr ((List.pairwise_iff_forall_sublist.mpr ?_))
    intro a b hab e
    have ha : a ∈ L := hab.subset (by simp)
    have hb : b ∈ L := hab.subset (by simp)
    have ne : a ≠ b := (List.pairwise_iff_forall_sublist.mp nd) hab
    exact ne (by rw [(one a ha).1, (one b hb).1, e])
  · rw [hS]
    constructor
    · intro hk
      exact ⟨_, List.mem_map.mpr ⟨k, hk, rfl⟩, (one k hk).1⟩
    · rintro ⟨c, hc, rfl⟩
      obtain ⟨k, hk, rfl⟩ := List.mem_map.mp hc
      rw [← (one k hk).1]
      exact hk
theorem call_setTxt (hc : X.calm = true) : CallR X (.type "set") (rSetTxt X.prog X.w) := by
  intro pins s σ H vs us Q I r h
  obtain ⟨l, rfl, hl, q⟩ := h
  obtain ⟨u, rfl, ru⟩ := vals1 r
  obtain ⟨t, rfl⟩ := ru
  have hsz : (SX.S l).cps.size = l.length := by simp [SX.S]
  refine LhS.mk_set (I.ok.hd hc) (by rw [hsz]; unfold scanBound; omega) fun h' tk S m hS cl keep => ?_
  refine ⟨.ref _, upd H s.heap.objs.size (SetT X.prog X.w s.heap.objs.size S m), I.laid (t' := tk) (fun b u e => keep b u (Heap.lt_size e) e) (Nat.le_refl _) (setT_new hS), rfl, q _ S m (I.hok.fresh (Nat.le_refl _)) (col_codes cl)⟩
theorem call_lenT : CallR X (.builtin "len") (fun xs H Q => ∃ a S n, xs = [V.ref a] ∧ H a = some (SetT X.prog X.w a S n) ∧ Q (.int (n : Nat)) H) := by
  intro pins s σ H xs us Q I r h
  obtain ⟨a, S, n, rfl, ha, q⟩ := h
  obtain ⟨u, rfl, ru⟩ := vals1 r
  obtain rfl : u = Value.ref a := ru
  obtain ⟨o, es, ep, t, ho, ex, hd, _, _, hb, hf, hn⟩ := (I.hok a _ ha).1
  refine call_len_set ho ex hd hf (by unfold scanBound at hb; omega) ?_
  rw [hn]
  exact ⟨.int n, H, I.tok _, ⟨_, rfl⟩, q⟩
def rEqSet (P : Program) (w : World) : R2 := fun x y H Q => ∃ a b S T m n, x = .ref a ∧ y = .ref b ∧ H a = some (SetT P w a S m) ∧ H b = some (SetT P w b T n) ∧ ∀ k : Bool, (k = true ↔ m = n ∧ ∀ z, S z = true → T z = true) → Q (.bl k) H
theorem op_eqSet (hu : X.A.units < cLine) : OpR X (compareOp .Eq) (rEqSet X.prog X.w) := by
  intro pins s σ H x y v u Q I rx ry h
  obtain ⟨a, b, S, T, m, n, rfl, rfl, ha, hb, q⟩ := h
  obtain rfl : v = Value.ref a := rx
  obtain rfl : u = Value.ref b := ry
  have hS := (I.hok a _ ha).1
  have hT := (I.hok b _ hb).1
  refine wpAny_richCompare_same_room (op := .Eq) hS.typeIs hT.typeIs PySem.F.slot_set_eq (wpAny_call_entry PySem.F.slot_set_eq hS.typeIs LhS.entry_eq ?_ (PySem.F.args_set_eq_2 _ _)) hu
  refine wpAny_mono (LhS.eq_sets (R := fun r s' => ∃ k : Bool, r = .ok (.ret (.bool k)) ∧ s' = s ∧ (k = true ↔ m = n ∧ ∀ z, S z = true → T z = true)) hS hT fun k hk => ⟨k, rfl, rfl, hk⟩) (fun fin s' h => ?_) fun e s' h => ?_
  · obtain ⟨v, rfl, k, e, rfl, hk⟩ := h
    cases e
    exact ⟨_, rfl, (fun z => by cases z), .bl k, H, I, rfl, q k hk⟩
  · obtain ⟨k, e, _⟩ := h
    cases e
end
end Lh
set_option Elab.async false
set_option linter.all false
set_option maxRecDepth 100000
set_option maxHeartbeats 4000000
/-! max(xs, default=d) of a list of ints. -/
namespace Lh
open PySem PySem.Spec PyProof.Rows L2
open PySem.W (AlikeAll max_list_default maxD_ints)
theorem reads_ints {h : Heap} : ∀ {vs : List Value} {ns : List Int}, IntsAre vs ns → ReadsAll h vs (ns.map PyData.int) []
  | _, _, .nil => .nil
  | _, _, .cons n t hr => .cons (as := []) (bs := []) (.int _ _) (reads_ints hr)
theorem alike_ints (ns : List Int) : AlikeAll (ns.map PyData.int) := by
  refine ⟨fun x hx y hy => ?_, fun x hx => ?_⟩
  · obtain ⟨a, _, rfl⟩ := List.mem_map.mp hx
    obtain ⟨b, _, rfl⟩ := List.mem_map.mp hy
    rfl
  · obtain ⟨a, _, rfl⟩ := List.mem_map.mp hx
    intro e
    cases e
theorem depth_ints : ∀ ns : List Int, PyData.depthAll (ns.map PyData.int) = 0
  | [] => rfl
  | a :: l => by
    show max (PyData.depth (.int a)) (PyData.depthAll (l.map PyData.int)) = 0
    rw [depth_ints l]
    rfl
theorem foldl_max : ∀ (ns : List Int) (n : Int), (ns.foldl max n ∈ n :: ns) ∧ ∀ y ∈ n :: ns, y ≤ ns.foldl max n
  | [], n => ⟨by simp, fun y hy => by simp at hy; simp [hy]⟩
  | a :: l, n => by
    obtain ⟨h1, h2⟩ := foldl_max l (max n a)
    rw [List.foldl_cons]
    refine ⟨?_, fun y hy => ?_⟩
    · rcases List.mem_cons.mp h1 with e | e
      · rw [e]
        by_cases q : n ≤ a
        · rw [Int.max_eq_right q]; simp
        · rw [Int.max_eq_left (by omega)]; simp
      · simp [e]
    · have h3 := h2 (max n a) List.mem_cons_self
      rcases List.mem_cons.mp hy with rfl | hy
      · omega
      · rcases List.mem_cons.mp hy with rfl | hy
        · omega
        · exact h2 y (List.mem_cons_of_mem _ hy)
def rMaxD (K : PySem.W.Frag) (vs zs : List V) (H : Hp) (Q : VK) : Prop := ∃ (a : Addr) (ns : List Int) (d : V), vs = [V.ref a] ∧ zs = [d] ∧ SqL K H a (ns.map V.int) ∧ (ns = [] → Q d H) ∧ ∀ m, m ∈ ns → (∀ y, y ∈ ns → y ≤ m) → Q (.int m) H
section
variable {X : Cx} {pins : List (Addr × Obj)} {σ : L2.St} {H : Hp} {s : Shared}
theorem run_maxD (hc : X.calm = true) (hu : X.A.units + 1 < cLine) {vs zs : List V} {us ws : List Value} {Q : VK} (I : Inv X pins σ H s) (r : Vals vs us) (rz : Vals zs ws) (h : rMaxD X.K vs zs H Q) :
    wpAny (model X.prog X.w) X.A (call (.builtin "max") us ([("default" : Str)].zip ws)) (EP X pins σ Q) X.xe s := by
  obtain ⟨a, ns, d, rfl, rfl, hs, q0, q1⟩ := h
  obtain ⟨its, rv, hl, _⟩ := I.list hs
  rw [Vals.ref1 r]
  obtain ⟨u, rfl, ru⟩ := vals1 rz
  have hi : IntsAre its ns := rv.ints
  refine max_list_default (xs := ns.map PyData.int) (as := []) (I.ok.hd hc) hl.isList (reads_ints (by simpa using hi)) (alike_ints ns) (by rw [depth_ints]; exact hu) (fun e h' tk k => ?_) fun y ys i v h' tk bs e hv rd k => ?_
  · have e0 : ns = [] := by simpa using e
    exact ⟨d, H, I.kept k, ru, q0 e0⟩
  · cases ns with
    | nil => simp at e
    | cons n l =>
      simp only [List.map_cons, List.cons.injEq] at e
      obtain ⟨rfl, rfl⟩ := e
      rw [maxD_ints] at rd
      cases rd with
      | int m t =>
        have f := foldl_max l n
        exact ⟨.int (l.foldl max n), H, I.kept k, ⟨_, rfl⟩, q1 _ f.1 f.2⟩
def tMaxD (K : PySem.W.Frag) (t tk : TA) : TE := fun σ H Q => t σ H fun vs H1 => tk σ H1 fun zs H2 => rMaxD K vs zs H2 Q
theorem pe_maxD {e : Expr} {es : List Expr} {kws : List Keyword} {t tk : TA} {p pos : Pos} (hc : X.calm = true) (hu : X.A.units + 1 < cLine) (hg : Gl X "max") (hm : X.mg "max" = none) (ha : PA X (e :: es) t) (hkw : PK X kws tk) (hall : (backToKw pos (keywordEach kws X.env)).all (·.1.isSome) = true := by rfl) (hks : (backToKw pos (keywordEach kws X.env)).filterMap (·.1) = [("default" : Str)] := by rfl)
    (hn : (backToKw pos (keywordEach kws X.env)).any (·.1.isNone) = false := by rfl)
    (he : backTo pos (starEach (e :: es) X.env) = (false, eval e X.env) :: backTo pos (starEach es X.env) := by rfl) (hpl : (backTo pos (starEach (e :: es) X.env)).any (·.1) = false := by rfl) : PE X (.Call (.Name "max" p) (e :: es) kws pos) (tMaxD X.K t tk) := by
  refine ⟨fun pins s σ H Q I h => ?_⟩
  refine wpAny_Call_Name_kw (ld_blt I hg hm (u := .builtin "max") (by decide +kernel) ?_ (by decide) (by decide))
  refine callWith_kw (thn (ha.run pos pins s σ H _ I h) fun us s1 ⟨vs, H1, I1, r, q⟩ => ?_) he hpl hall hn
  refine thn (hkw.run pos pins s1 σ H1 _ I1 q) fun ws s2 ⟨zs, H2, I2, rz, q2⟩ => ?_
  rw [hks]
  exact run_maxD hc hu I2 r rz q2
end
end Lh
set_option Elab.async false
set_option linter.all false
set_option maxRecDepth 100000
/-! A walk that hands out pairs (the library's WalksT) as an iterator of the hand layer: told once, for whatever draws its items. -/
namespace Lh
open PySem PyProof.Rows L2
section
variable {X : Cx} {z : Addr} {own own' : List Addr} {n i : Nat} {Pt : Nat → Array Value → Prop} {St : Nat → Heap → Prop} {Md : Nat → Addr → Heap → Prop}
  {pins : List (Addr × Obj)} {s : Shared} {σ : L2.St} {H : Hp} {E R : Value → Shared → Prop} {x y : V}
/-- a turn: a new pair of x and y -/
theorem pair_turn {es : List Expr} {k : Nat} {tp : Pos} (W : WalksT X.prog X.w X.A z own' own n Pt St Md) (iv : Inv X pins σ H s) (ok : ∀ b ∈ own, FpOk X pins H b) (lt : i < n) (st : St i s.heap)
    (says : ∀ vals, Pt i vals → ∃ u v, vals = #[u, v] ∧ RelV x u ∧ RelV y v)
    (fin : ∀ T s2, H T = none → (T ∉ own ∧ s.heap.objs.size ≤ T) → Inv X pins σ (upd H T (.tup [x, y])) s2 → St (i + 1) s2.heap → R (.ref T) s2) :
    wpAny (model X.prog X.w) X.A (pyNext (.ref z)) (fun r s1 => ∃ u, r = some u ∧ wpAny (model X.prog X.w) X.A (letOwnedTupleGo (.Tuple es k tp) (.ref z) u)
      (fun _ s2 => R u s2) E s1) E s := by
  refine W.item i s _ E lt st fun T vals h1 t1 hp le tup mid k1 => ⟨.ref T, rfl, W.go es k tp i T _ _ E mid fun h2 st2 k2 => ?_⟩
  obtain ⟨u, v, rfl, ru, rv⟩ := says vals hp
  have far : T ∉ own := W.apart _ _ _ mid
  have tup2 : h2.IsTuple T #[u, v] := tup.at fun o e => k2 T o far e
  have two : (2 : Nat) ≤ sizeLine := by decide
  refine fin T _ (iv.hok.fresh le) ⟨far, le⟩ ?_ st2
  exact iv.turnedNew (fun b o hb e => k2 b o hb (k1 b o hb e)) ok le ⟨two, [u, v], .cons ru (.cons rv .nil), tup2⟩
/-- behind the last turn -/
theorem pair_done (W : WalksT X.prog X.w X.A z own' own n Pt St Md) (iv : Inv X pins σ H s) (ok : ∀ b ∈ own, FpOk X pins H b) (st : St n s.heap) :
    wpAny (model X.prog X.w) X.A (pyNext (.ref z)) (fun r s1 => r = none ∧ Inv X pins σ H s1) E s :=
  W.done s _ E st fun _ _ k => ⟨rfl, iv.turnedL k ok⟩
end

/-! ### rows: a list or a tuple, and what draws from it -/
/-- the row at a: of a list (true) or of a tuple -/
def Row (K : PySem.W.Frag) (k : Bool) (H : Hp) (a : Addr) (xs : List V) : Prop := cond k (SqL K H a xs) (SqT K H a xs)
def RowIs (k : Bool) (h : Heap) (a : Addr) (us : Array Value) : Prop := cond k (h.IsList a us) (h.IsTuple a us)
def RowAt (k : Bool) (h : Heap) (it a : Addr) (i : Nat) : Prop := cond k (h.IsListIter it a i) (h.IsTupleIter it a i)
theorem row_read {X : Cx} {pins : List (Addr × Obj)} {s : Shared} {σ : L2.St} {H : Hp} (iv : Inv X pins σ H s) : ∀ {k : Bool} {a : Addr} {xs : List V}, Row X.K k H a xs → ∃ us : List Value, Vals xs us ∧ RowIs k s.heap a us.toArray ∧ a < s.heap.objs.size
  | true, a, xs, h => let ⟨us, r, p, _⟩ := iv.list h; ⟨us, r, p.isList, p.lt⟩
  | false, a, xs, h => let ⟨us, r, p, _⟩ := iv.tuple h; ⟨us, r, p, let ⟨_, e, _⟩ := p; Heap.lt_size e⟩
theorem row_one {X : Cx} {pins : List (Addr × Obj)} {s : Shared} {σ : L2.St} {H : Hp} (iv : Inv X pins σ H s) : ∀ {k : Bool} {a : Addr} {xs ys : List V}, Row X.K k H a xs → Row X.K k H a ys → xs = ys
  | true, _, _, _, h, g => iv.list_inj h g
  | false, _, _, _, h, g => iv.tuple_inj h g
/-- what draws from the row -/
theorem row_draws {P : Program} {w : World} {A : Around} (hd : A.handled = none) {it a : Addr} (ne : a ≠ it) (us : Array Value) : ∀ k : Bool, Draws P w A it [it, a] us.size (fun i v => us[i]? = some v) (fun i h => RowAt k h it a i ∧ RowIs k h a us)
  | true => Draws.list hd it a ne us
  | false => Draws.tuple hd it a ne us
/-- the iterator that a row begins -/
def rowIt (k : Bool) (a : Addr) : Obj := { cls := .type (cond k "list_iterator" "tuple_iterator"), data := .fields #[.ref a, .int 0 0] }
theorem row_begins (k : Bool) (a : Addr) (us : Array Value) : Begins (.ref a) (rowIt k a) (fun h => RowIs k h a us) := by
  cases k
  · exact begins_tuple a us
  · exact begins_list a us
theorem row_at0 {h : Heap} {it a : Addr} : ∀ {k : Bool}, h.get? it = some (rowIt k a) → RowAt k h it a 0
  | true, e => ⟨_, e, rfl, rfl⟩
  | false, e => ⟨_, e, rfl, rfl⟩
theorem row_keep {h h' : Heap} {it a : Addr} {i : Nat} (hk : ∀ o, h.get? it = some o → h'.get? it = some o) : ∀ {k : Bool}, RowAt k h it a i → RowAt k h' it a i
  | true, r => r.at hk
  | false, r => r.at hk
theorem row_cell {h : Heap} {it a : Addr} {i : Nat} : ∀ {k : Bool}, RowAt k h it a i → ∃ o, h.get? it = some o ∧ ∀ v, o.data ≠ .cell v
  | true, ⟨o, e, _, d⟩ => ⟨o, e, fun v z => by rw [d] at z; cases z⟩
  | false, ⟨o, e, _, d⟩ => ⟨o, e, fun v z => by rw [d] at z; cases z⟩
theorem draw_rel {xs : List V} {us : List Value} {i : Nat} {x : V} {u : Value} (r : Vals xs us) (hx : xs[i]? = some x) (hu : us.toArray[i]? = some u) : RelV x u := by
  obtain ⟨u', e, ru⟩ := r.get hx
  rw [List.getElem?_toArray, e] at hu
  cases hu
  exact ru
end Lh
set_option Elab.async false
set_option linter.all false
set_option maxRecDepth 100000
/-! enumerate of a tuple: an instance of LhTurns. -/
namespace Lh
open PySem PySem.Spec PyProof.Rows L2
/-- the two cells that enumerate(v) makes -/
abbrev enCells (h : Heap) (o : Obj) : Heap := (h.push o).push ⟨.type "enumerate", none, .fields #[.none, .bool false, .ref h.objs.size, rawInt 0, .none, .none], #[]⟩
theorem new_enum1 {v : Value} {o : Obj} {H : Heap → Prop} (B : Begins v o H) : Meets (Builtin.«enumerate.__new__» ⟨[.type "enumerate", v], []⟩)
    (fun _ R s => H s.heap ∧ R (.ok (.ret (.ref (s.heap.objs.size + 1)))) { s with heap := enCells s.heap o }) := by
  refine .of_wp fun prog w A R s ⟨hv, fin⟩ => ?_
  cases s with | mk hp g d tk os =>
  have sz : (hp.push o).objs.size = hp.objs.size + 1 := Heap.size_push ..
  have sub := sub_enumerate
  have begin' : ∀ {A' : Around} {E Q : Value → Shared → Prop}, Q (.ref hp.objs.size) ⟨hp.push o, g, d, tk, os⟩ → wpAny (model prog w) A' (pyIter v) Q E ⟨hp, g, d, tk, os⟩ := fun q => B.iter _ _ _ _ _ _ hv q
  have fin' : R (.ok (.ret (.ref (hp.push o).objs.size))) ⟨enCells hp o, g, d, tk, os⟩ := by rw [sz]; exact fin
  wp_walk using begin'
  refine wpAny_stack_any fun st => wpAny_pure ?_
  split
  case h_1 c _ _ _ _ _ => cases (c == Value.type "enumerate") <;> (wp_walk using begin'; exact ⟨_, rfl, fin'⟩)
  case h_2 => wp_walk using begin'; exact ⟨_, rfl, fin'⟩
/-- enumerate(v) -/
theorem enum1 {prog : Program} {w : World} {A : Around} {E Q : Value → Shared → Prop} {s : Shared} {v : Value} {o : Obj} {H : Heap → Prop} (B : Begins v o H) (hv : H s.heap)
    (fin : IsEnum (enCells s.heap o) (s.heap.objs.size + 1) s.heap.objs.size 0 .none → (enCells s.heap o).get? s.heap.objs.size = some o → Q (.ref (s.heap.objs.size + 1)) { s with heap := enCells s.heap o }) :
    wpAny (model prog w) A (call (.type "enumerate") [v]) Q E s := by
  have sz : (s.heap.push o).objs.size = s.heap.objs.size + 1 := Heap.size_push ..
  have e : IsEnum (enCells s.heap o) (s.heap.objs.size + 1) s.heap.objs.size 0 .none := by rw [← sz]; exact Heap.get?_push_size _ rfl
  exact callType_new F.called_enumerate (by decide) (F.typeCall_enumerate_1 v) (F.newCall_enumerate_1 v) (fun obj => F.args_object_init_2 obj v) F.entry_enumerate_new (new_enum1 B)
    ⟨hv, ⟨_, e, rfl⟩, fin e (Heap.get?_push_of_some _ (Heap.get?_push_size _ B.free))⟩
/-- the tuple at a, each item in a new pair -/
def ItE (K : PySem.W.Frag) (a : Addr) : It where
  go i H := ∃ (xs : List V) (x : V), SqT K H a xs ∧ xs[i]? = some x
  yld i H v H' := ∃ T x, v = .ref T ∧ H T = none ∧ H' = upd H T (.tup [.int (i : Nat), x]) ∧ ∀ xs, SqT K H a xs → xs[i]? = some x
  stop i H := ∃ xs : List V, SqT K H a xs ∧ xs.length = i
theorem turn_enumT {P : Program} {w : World} {K : PySem.W.Frag} {es : List Expr} {k : Nat} {tp : Pos} (a e it : Addr) (hai : a ≠ it) (hae : a ≠ e) (hei : e ≠ it) :
    Turn P w K (.Tuple es k tp) (ItE K a) [e, it] e (fun i h => (∃ old, IsEnum h e it ((0 : Int) + (i : Nat)) old) ∧ RowAt false h it a i) where
  mem := .head _
  obj i h st b hb := by
    obtain ⟨⟨old, he⟩, hi⟩ := st
    have two : b = e ∨ b = it := by simpa using hb
    rcases two with rfl | rfl
    · exact ⟨_, he, nofun⟩
    · exact row_cell hi
  keep i h h' st k := ⟨st.1.imp fun old he => k e (.head _) _ he, row_keep (fun o q => k it (.tail _ (.head _)) o q) st.2⟩
  item X hP hw hK hc i pins s σ H E iv ok st hg := by
    cases hP; cases hw; cases hK
    obtain ⟨xs, x, q, hx⟩ := hg
    obtain ⟨us, rv, p, _⟩ := row_read (k := false) iv q
    have lt : i < us.toArray.size := by
      have := (List.getElem?_eq_some_iff.mp hx).1
      have := rv.length
      simp only [List.size_toArray]; omega
    refine pair_turn (x := .int (i : Nat)) (y := x) (E := E) (WalksT.enumFrom 0 (row_draws (A := X.A.in1) (iv.ok.hd hc) hai us.toArray false) e hei (by simp [hei, hae.symm]) (.head _)) iv ok lt ⟨st.1, st.2, p⟩
        (fun vals ⟨t, v, hv, ev⟩ => ⟨_, v, ev, ⟨t, by rw [Int.zero_add]⟩, draw_rel rv hx hv⟩)
        fun T s2 n far iv2 st2 => ⟨.ref T, _, iv2, (show Value.ref T = Value.ref T from rfl), ⟨T, x, rfl, n, rfl, fun ys hy => by rw [iv.tuple_inj hy q]; exact hx⟩, ⟨st2.1, st2.2.1⟩, fun b hb => ?_⟩
    have ne : b ≠ T := fun z => far.1 (by rw [← z]; exact hb)
    rw [upd_ne ne]
    exact (ok b hb).1
  done X hP hw hK hc i pins s σ H E iv ok st hg := by
    cases hP; cases hw; cases hK
    obtain ⟨xs, q, rfl⟩ := hg
    obtain ⟨us, rv, p, _⟩ := row_read (k := false) iv q
    have sz : xs.length = us.toArray.size := by rw [List.size_toArray]; exact rv.length
    exact pair_done (WalksT.enumFrom 0 (row_draws (A := X.A.in1) (iv.ok.hd hc) hai us.toArray false) e hei (by simp [hei, hae.symm]) (.head _)) iv ok (by rw [← sz]; exact ⟨st.1, st.2, p⟩)
  self A i s Q E st h := let ⟨⟨_, he⟩, _⟩ := st; wpAny_pyIter_enum he h
def iEnumT (K : PySem.W.Frag) (ta : TA) : TI := fun σ H R => ta σ H fun vs H1 => ∃ a xs, vs = [.ref a] ∧ SqT K H1 a xs ∧ R (ItE K a) H1
theorem pi_enumT {X : Cx} {e : Expr} {ta : TA} {p pos tpos : Pos} {elts : List Expr} {kk : Nat} (hg : Gl X "enumerate") (hm : X.mg "enumerate" = none) (ha : PA X [e] ta) (hs : starEach [e] X.env = [(false, eval e X.env)] := by rfl) :
    PI X (.Tuple elts kk tpos) (.Call (.Name "enumerate" p) [e] [] pos) (iEnumT X.K ta) where
  run pins s σ H R I h := by
    refine Call_ (ld_blt I hg hm boot_enumerate (PyProof.Rows.callWith_type1 (thn (ha.run pos pins s σ H _ I h) fun us s1 ⟨vs, H1, I1, r1, a, xs, ev, q, hR⟩ => ?_) hs rfl))
    subst ev
    obtain ⟨u, rfl, ru⟩ := vals1 r1
    cases (show u = Value.ref a from ru)
    obtain ⟨us, rv, row, lt⟩ := row_read (k := false) I1 q
    refine enum1 (row_begins false a us.toArray) row fun he hi => wpAny_pyIter_enum he ?_
    have young : ∀ b ∈ [s1.heap.objs.size + 1, s1.heap.objs.size], FpOk X pins H1 b := fun b hb => by
      have le : s1.heap.objs.size ≤ b := by
        have : b = s1.heap.objs.size + 1 ∨ b = s1.heap.objs.size := by simpa using hb
        omega
      exact I1.fpOk le (I1.hok.fresh le)
    exact ⟨_, _, _, _, H1, rfl, I1.kept (t' := s1.toks) fun b o x => Heap.get?_push_of_some _ (Heap.get?_push_of_some _ x), turn_enumT a _ s1.heap.objs.size (Nat.ne_of_lt lt) (Nat.ne_of_lt (Nat.lt_succ_of_lt lt)) (Nat.succ_ne_self _), ⟨⟨.none, he⟩, row_at0 hi⟩, young, hR⟩
theorem walk_enumT {K : PySem.W.Frag} {a : Addr} {xs : List V} : Walk (ItE K a) xs.length (fun H => SqT K H a xs) (YPair (fun i => some (.int (i : Nat))) (fun i => xs[i]?)) where
  goes i _ hi q := ⟨xs, xs[i], q, List.getElem?_eq_getElem hi⟩
  stops _ q := ⟨xs, q, rfl⟩
  yields i H v H' _ q y := let ⟨T, x, h1, h2, h3, h4⟩ := y; ⟨T, .int (i : Nat), x, h1, h2, h3, rfl, h4 xs q⟩
end Lh
set_option Elab.async false
set_option linter.all false
set_option maxRecDepth 100000
set_option maxHeartbeats 4000000
/-! A house as an instance; what its module's names stand for. -/
namespace Lh
open PySem PySem.Spec PyProof.Rows L2 SX
/-- the class House and its attributes' names -/
structure HCls (K : PySem.W.Frag) (C : Addr) : Prop where
  cl : Cls K C
  nR : NoAttr K C "rooms"
  nD : NoAttr K C "doors"
  nT : NoAttr K C "trades"
def hflds (n : Int) (t : Addr) (g : List Nat) : List (Str × V) := [("rooms", .int n), ("doors", .ref t), ("trades", .str (S g))]
/-- an instance whose fields are these; its doors are a tuple of tuples -/
structure HouseAt (K : PySem.W.Frag) (H : Hp) (p : Addr) (n : Int) (g : List Nat) (ds : List Door) : Prop where
  ex : ∃ (C dx t : Addr) (refs : List V), HCls K C ∧ H p = some (.ins C dx (hflds n t g)) ∧ H t = some (.tup refs) ∧ All2 (IsDoor H) refs ds
theorem HouseAt.same {K : PySem.W.Frag} {H H' : Hp} {p : Addr} {n : Int} {g : List Nat} {ds : List Door} (h : HouseAt K H p n g ds) (s : Same H H') : HouseAt K H' p n g ds := by
  obtain ⟨C, dx, t, refs, hc, h1, h2, h3⟩ := h.ex
  exact ⟨C, dx, t, refs, hc, s _ _ h1, s _ _ h2, h3.imp fun v d q => q.same s⟩
/-- a pair of ints -/
def IsPr (H : Hp) (v : V) (q : Int × Int) : Prop := ∃ r, v = .ref r ∧ H r = some (.tup [.int q.1, .int q.2])
theorem IsPr.same {H H' : Hp} (s : Same H H') (v : V) (q : Int × Int) (h : IsPr H v q) : IsPr H' v q := by
  obtain ⟨r, e, h⟩ := h
  exact ⟨r, e, s _ _ h⟩
theorem IsPr.keep {H : Hp} {p : Addr} {o : HO} (hp : ∀ xs, H p ≠ some (.tup xs)) (v : V) (q : Int × Int) (h : IsPr H v q) : IsPr (upd H p o) v q := by
  obtain ⟨r, e, h⟩ := h
  refine ⟨r, e, ?_⟩
  rw [upd_ne (fun q => hp _ (by rw [← q]; exact h))]
  exact h
/-- a list of pairs -/
def IsPrs (H : Hp) (v : V) (qs : List (Int × Int)) : Prop := ∃ r refs, v = .ref r ∧ H r = some (.lst refs) ∧ All2 (IsPr H) refs qs
theorem IsPrs.same {H H' : Hp} (s : Same H H') (v : V) (qs : List (Int × Int)) (h : IsPrs H v qs) : IsPrs H' v qs := by
  obtain ⟨r, refs, e, h1, h2⟩ := h
  exact ⟨r, refs, e, s _ _ h1, h2.imp fun v q h => h.same s⟩
end Lh
namespace Lh
open PySem PySem.Spec PyProof.Rows L2 SX
/-- the module's names that stand for functions of the heap -/
structure Glb (mg : Str → Option Value) : Prop where
  pop : mg "heappop" = some (.builtin "_heapq.heappop")
  push : mg "heappush" = some (.builtin "_heapq.heappush")
end Lh
set_option Elab.async false
set_option linter.all false
set_option maxRecDepth 100000
set_option maxHeartbeats 8000000
namespace Lh
open PySem PySem.Spec PyProof.Rows L2 SX
theorem All2.of_get {α β : Type} {R : α → β → Prop} : ∀ {l : List α} {m : List β}, l.length = m.length → (∀ (i : Nat) a b, l[i]? = some a → m[i]? = some b → R a b) → All2 R l m
  | [], [], _, _ => .nil
  | [], _ :: _, h, _ => by simp at h
  | _ :: _, [], h, _ => by simp at h
  | a :: l, b :: m, h, f => .cons (f 0 a b rfl rfl) (All2.of_get (by simpa using h) fun i x y hx hy => f (i + 1) x y (by simpa using hx) (by simpa using hy))
/-- whom the rooms' doors lead to, the first i doors alone -/
structure NbI (n : Int) (ds : List Door) (i : Nat) (nbs : List (List (Int × Int))) : Prop where
  len : (nbs.length : Int) = n
  mem : ∀ (a : Nat) l, nbs[a]? = some l → ∀ d b, (d, b) ∈ l ↔ ∃ (k : Nat) (c : List Nat), k < i ∧ d = (k : Int) ∧ (ds[k]? = some ((a : Int), b, c) ∨ ds[k]? = some (b, (a : Int), c))
  short : ∀ l ∈ nbs, l.length ≤ 2 * i
abbrev NbOk (n : Int) (ds : List Door) (nbs : List (List (Int × Int))) : Prop := NbI n ds ds.length nbs
def nbPut (nbs : List (List (Int × Int))) (x : Nat) (q : Int × Int) : List (List (Int × Int)) := nbs.set x (nbs.getD x [] ++ [q])
theorem NbI.nil {n : Int} {ds : List Door} (h : 0 ≤ n) : NbI n ds 0 (List.replicate n.toNat []) := ⟨by simp; omega, fun a l hl d b => by
  have : l = [] := by
    have := List.mem_of_getElem? hl
    exact (List.mem_replicate.mp this).2
  subst this
  simp, fun l hl => by rw [(List.mem_replicate.mp hl).2]; simp⟩
theorem NbI.more {n : Int} {ds : List Door} {i : Nat} {nbs : List (List (Int × Int))} (h : NbI n ds i nbs) {x y : Nat} {c : List Nat} (hd : ds[i]? = some ((x : Int), (y : Int), c)) (hx : (x : Int) < n) (hy : (y : Int) < n) (hxy : x ≠ y) :
    NbI n ds (i + 1) (nbPut (nbPut nbs x ((i : Int), (y : Int))) y ((i : Int), (x : Int))) := by
  have hl := h.len
  have gx : nbs[x]? = some (nbs.getD x []) := by
    rw [List.getD_eq_getElem?_getD, List.getElem?_eq_getElem (by omega)]
    rfl
  have gy : nbs[y]? = some (nbs.getD y []) := by
    rw [List.getD_eq_getElem?_getD, List.getElem?_eq_getElem (by omega)]
    rfl
  have gy2 : (nbPut nbs x ((i : Int), (y : Int))).getD y [] = nbs.getD y [] := by
    rw [List.getD_eq_getElem?_getD, List.getD_eq_getElem?_getD, nbPut, List.getElem?_set_ne hxy]
  have old : ∀ (a : Nat) (d b : Int), (∃ (k : Nat) (c : List Nat), k < i ∧ d = (k : Int) ∧ (ds[k]? = some ((a : Int), b, c) ∨ ds[k]? = some (b, (a : Int), c))) ↔ (∃ (k : Nat) (c : List Nat), k < i ∧ d = (k : Int) ∧ (ds[k]? = some ((a : Int), b, c) ∨ ds[k]? = some (b, (a : Int), c))) := fun _ _ _ => Iff.rfl
  have new : ∀ (a : Nat) (d b : Int), (∃ (k : Nat) (c : List Nat), k < i + 1 ∧ d = (k : Int) ∧ (ds[k]? = some ((a : Int), b, c) ∨ ds[k]? = some (b, (a : Int), c))) ↔
      (∃ (k : Nat) (c : List Nat), k < i ∧ d = (k : Int) ∧ (ds[k]? = some ((a : Int), b, c) ∨ ds[k]? = some (b, (a : Int), c))) ∨ (d = (i : Int) ∧ ((a = x ∧ b = (y : Int)) ∨ (a = y ∧ b = (x : Int)))) := fun a d b => by
    constructor
    · rintro ⟨k, c', hk, e, q⟩
      by_cases hki : k = i
      · subst hki
        right
        rw [hd] at q
        rcases q with q | q
        · simp only [Option.some.injEq, Prod.mk.injEq] at q
          exact ⟨e, .inl ⟨by omega, q.2.1.symm⟩⟩
        · simp only [Option.some.injEq, Prod.mk.injEq] at q
          exact ⟨e, .inr ⟨by omega, q.1.symm⟩⟩
      · exact .inl ⟨k, c', by omega, e, q⟩
    · rintro (⟨k, c', hk, e, q⟩ | ⟨e, ⟨rfl, rfl⟩ | ⟨rfl, rfl⟩⟩)
      · exact ⟨k, c', by omega, e, q⟩
      · exact ⟨i, c, by omega, e, .inl hd⟩
      · exact ⟨i, c, by omega, e, .inr hd⟩
  refine ⟨by simp [nbPut, hl], fun a l hal d b => ?_, fun l hm => ?_⟩
  · rw [new]
    unfold nbPut at hal
    rw [List.getElem?_set] at hal
    by_cases hay : y = a
    · subst hay
      rw [if_pos rfl] at hal
      have e : l = (nbPut nbs x ((i : Int), (y : Int))).getD y [] ++ [((i : Int), (x : Int))] := by
        split at hal
        · exact (Option.some.inj hal).symm
        · cases hal
      rw [e, gy2, List.mem_append, h.mem y _ gy d b, List.mem_singleton, Prod.mk.injEq]
      constructor
      · rintro (q | ⟨q1, q2⟩)
        · exact .inl q
        · exact .inr ⟨q1, .inr ⟨rfl, q2⟩⟩
      · rintro (q | ⟨q1, ⟨q2, _⟩ | ⟨_, q2⟩⟩)
        · exact .inl q
        · exact absurd q2.symm hxy
        · exact .inr ⟨q1, q2⟩
    · rw [if_neg hay, List.getElem?_set] at hal
      by_cases hax : x = a
      · subst hax
        rw [if_pos rfl] at hal
        have e : l = nbs.getD x [] ++ [((i : Int), (y : Int))] := by
          split at hal
          · exact (Option.some.inj hal).symm
          · cases hal
        rw [e, List.mem_append, h.mem x _ gx d b, List.mem_singleton, Prod.mk.injEq]
        constructor
        · rintro (q | ⟨q1, q2⟩)
          · exact .inl q
          · exact .inr ⟨q1, .inl ⟨rfl, q2⟩⟩
        · rintro (q | ⟨q1, ⟨_, q2⟩ | ⟨q2, _⟩⟩)
          · exact .inl q
          · exact .inr ⟨q1, q2⟩
          · exact absurd q2 hxy
      · rw [if_neg hax] at hal
        rw [h.mem a l hal d b]
        constructor
        · exact .inl
        · rintro (q | ⟨_, ⟨q2, _⟩ | ⟨q2, _⟩⟩)
          · exact q
          · exact absurd q2.symm hax
          · exact absurd q2.symm hay
  · have sx := h.short _ (List.mem_of_getElem? gx)
    have sy := h.short _ (List.mem_of_getElem? gy)
    unfold nbPut at hm
    rcases List.mem_or_eq_of_mem_set hm with q | q
    · rcases List.mem_or_eq_of_mem_set q with q | q
      · have := h.short l q
        omega
      · rw [q]
        simp only [List.length_append, List.length_singleton]
        omega
    · have e : ((nbs.set x (nbs.getD x [] ++ [((i : Int), (y : Int))])).getD y []) = nbs.getD y [] := gy2
      rw [q, e]
      simp only [List.length_append, List.length_singleton]
      omega
/-- one pair more in one of the lists -/
theorem nbs_put {H : Hp} {rs : List Addr} {nbs : List (List (Int × Int))} {x : Nat} {r : Addr} {prefs : List V} {v : V} {q : Int × Int} (a : All2 (IsPrs H) (rs.map V.ref) nbs) (nd : rs.Nodup) (hr : rs[x]? = some r) (hp : H r = some (.lst prefs)) (hv : IsPr H v q) :
    All2 (IsPrs (upd H r (.lst (prefs ++ [v])))) (rs.map V.ref) (nbPut nbs x q) := by
  have hlen := a.len
  have hx : x < nbs.length := by
    have := (List.getElem?_eq_some_iff.mp hr).1
    simpa using hlen ▸ (by simpa using this : x < (rs.map V.ref).length)
  have keep : ∀ v q, IsPr H v q → IsPr (upd H r (.lst (prefs ++ [v]))) v q := fun v q => IsPr.keep (by rw [hp]; intro _ z; cases z) v q
  refine All2.of_get (by simp [nbPut]; simpa using hlen) fun i u l hu hl => ?_
  unfold nbPut at hl
  rw [List.getElem?_set] at hl
  rw [List.getElem?_map] at hu
  obtain ⟨ri, hri, rfl⟩ := Option.map_eq_some_iff.mp hu
  by_cases hxi : x = i
  · subst hxi
    rw [if_pos rfl, if_pos hx] at hl
    obtain rfl : r = ri := Option.some.inj (hr.symm.trans hri)
    obtain ⟨l0, hl0⟩ : ∃ l0, nbs[x]? = some l0 := ⟨_, List.getElem?_eq_getElem hx⟩
    obtain ⟨_, hz, r', pr', e, h1, h2⟩ := a.get hl0
    have : (rs.map V.ref)[x]? = some (V.ref r) := by rw [List.getElem?_map, hr]; rfl
    rw [this] at hz
    cases hz
    cases e
    rw [hp] at h1
    cases h1
    have e0 : nbs.getD x [] = l0 := by rw [List.getD_eq_getElem?_getD, hl0]; rfl
    rw [e0] at hl
    cases hl
    exact ⟨r, _, rfl, upd_same, (h2.imp fun v q z => IsPr.keep (by rw [hp]; intro _ z; cases z) v q z).app (.cons (IsPr.keep (by rw [hp]; intro _ z; cases z) v q hv) .nil)⟩
  · rw [if_neg hxi] at hl
    obtain ⟨_, hz, r', pr', e, h1, h2⟩ := a.get hl
    have : (rs.map V.ref)[i]? = some (V.ref ri) := by rw [List.getElem?_map, hri]; rfl
    rw [this] at hz
    cases hz
    cases e
    have hne : ri ≠ r := fun z => by
      subst z
      exact hxi (nd_ix nd hr hri)
    exact ⟨ri, pr', rfl, by rw [upd_ne hne]; exact h1, h2.imp fun v q z => IsPr.keep (by rw [hp]; intro _ z; cases z) v q z⟩
end Lh
set_option Elab.async false
set_option linter.all false
set_option maxRecDepth 100000
set_option maxHeartbeats 4000000
/-! Cheapest ways: labels of rooms that grow better until none can be bettered. -/
namespace Lh
open PySem PySem.Spec PyProof.Rows L2 SX
/-! ### tables of ints -/
def lk (ls : List (Int × Int)) (r : Int) : Option Int := (ls.find? fun p => decide (p.1 = r)).map (·.2)
def putL (ls : List (Int × Int)) (r c : Int) : List (Int × Int) := if (ls.any fun p => decide (p.1 = r)) = true then ls.map (fun p => if p.1 = r then (p.1, c) else p) else ls ++ [(r, c)]
abbrev kvOf (p : Int × Int) : Key × V := (Sum.inl p.1, V.int p.2)
theorem lk_nil (r : Int) : lk [] r = none := rfl
theorem lk_cons (p : Int × Int) (ls : List (Int × Int)) (r : Int) : lk (p :: ls) r = if p.1 = r then some p.2 else lk ls r := by
  unfold lk
  rw [List.find?_cons]
  by_cases h : p.1 = r <;> simp [h]
theorem valV_of (r : Int) : ∀ ls : List (Int × Int), valV (ls.map kvOf) (Sum.inl r) = (lk ls r).map V.int
  | [] => rfl
  | p :: ls => by
    rw [List.map_cons, lk_cons]
    by_cases h : p.1 = r
    · rw [valV_pos (show (kvOf p).1 = Sum.inl r from congrArg Sum.inl h), if_pos h]
      rfl
    · rw [valV_neg (by intro e; exact h (Sum.inl.inj e)), if_neg h]
      exact valV_of r ls
theorem any_of (r : Int) (ls : List (Int × Int)) : ((ls.map kvOf).any fun kv => decide (kv.1 = (Sum.inl r : Key))) = ls.any fun p => decide (p.1 = r) := by
  rw [List.any_map]
  congr 1
  funext p
  simp [kvOf]
theorem putK_of (r c : Int) (ls : List (Int × Int)) : putK (ls.map kvOf) (Sum.inl r) (V.int c) = (putL ls r c).map kvOf := by
  unfold putK putL
  rw [any_of]
  split
  · rw [List.map_map, List.map_map]
    refine List.map_congr_left fun p _ => ?_
    simp only [Function.comp_apply, kvOf, Sum.inl.injEq]
    split <;> rfl
  · simp [kvOf]
theorem lk_some {ls : List (Int × Int)} {r v : Int} (h : lk ls r = some v) : (r, v) ∈ ls := by
  unfold lk at h
  obtain ⟨p, hp, rfl⟩ := Option.map_eq_some_iff.mp h
  have e := List.find?_some hp
  have m := List.mem_of_find?_eq_some hp
  simp at e
  rw [← e]
  exact m
theorem lk_none {ls : List (Int × Int)} {r : Int} (h : lk ls r = none) : r ∉ ls.map (·.1) := fun m => by
  obtain ⟨p, hp, e⟩ := List.mem_map.mp m
  unfold lk at h
  rw [Option.map_eq_none_iff, List.find?_eq_none] at h
  have := h p hp
  simp at this
  exact this e
theorem lk_mem {ls : List (Int × Int)} (nd : (ls.map (·.1)).Nodup) {r v : Int} (h : (r, v) ∈ ls) : lk ls r = some v := by
  induction ls with
  | nil => simp at h
  | cons p l ih =>
    rw [lk_cons]
    rw [List.map_cons, List.nodup_cons] at nd
    rcases List.mem_cons.mp h with e | e
    · rw [← e, if_pos rfl]
    · have hne : ¬ p.1 = r := fun q => nd.1 (by rw [q]; exact List.mem_map.mpr ⟨_, e, rfl⟩)
      rw [if_neg hne]
      exact ih nd.2 e
theorem any_lk (ls : List (Int × Int)) (r : Int) : (ls.any fun p => decide (p.1 = r)) = (lk ls r).isSome := by
  induction ls with
  | nil => rfl
  | cons p l ih =>
    rw [List.any_cons, lk_cons, ih]
    by_cases h : p.1 = r <;> simp [h]
theorem lk_put (ls : List (Int × Int)) (r c j : Int) : lk (putL ls r c) j = if j = r then some c else lk ls j := by
  unfold putL
  split
  · rename_i h
    rw [any_lk] at h
    induction ls with
    | nil => simp [lk] at h
    | cons p l ih =>
      rw [List.map_cons, lk_cons, lk_cons]
      rw [lk_cons] at h
      by_cases e : p.1 = r
      · rw [if_pos e]
        by_cases ej : j = r
        · subst ej
          simp [e]
        · have : ¬ p.1 = j := fun q => ej (q.symm.trans e)
          have this2 : ¬ (p.1, c).1 = j := this
          rw [if_neg this2, if_neg ej, if_neg this]
          have h2 : ∀ l : List (Int × Int), lk (l.map fun p => if p.1 = r then (p.1, c) else p) j = lk l j := by
            intro l
            induction l with
            | nil => rfl
            | cons q m ih2 =>
              rw [List.map_cons, lk_cons, lk_cons, ih2]
              by_cases eq : q.1 = r
              · have : ¬ q.1 = j := fun z => ej (z.symm.trans eq)
                have ej2 : ¬ r = j := fun z => ej z.symm
                simp [eq, ej2]
              · simp [eq]
          exact h2 l
      · rw [if_neg e] at h ⊢
        rw [ih h]
        by_cases epj : p.1 = j
        · have : ¬ j = r := fun z => e (epj.trans z)
          simp [epj, this]
        · simp [epj]
  · rename_i h
    rw [any_lk] at h
    have hn : lk ls r = none := by
      cases q : lk ls r with
      | none => rfl
      | some v => rw [q] at h; simp at h
    unfold lk at hn ⊢
    rw [List.find?_append]
    by_cases ej : j = r
    · subst ej
      rw [if_pos rfl]
      rw [Option.map_eq_none_iff] at hn
      rw [hn]
      simp
    · rw [if_neg ej]
      have : ([(r, c)] : List (Int × Int)).find? (fun p => decide (p.1 = j)) = none := by
        simp
        exact fun z => ej z.symm
      rw [this]
      simp
theorem keys_put (ls : List (Int × Int)) (r c : Int) : (putL ls r c).map (·.1) = if (lk ls r).isSome = true then ls.map (·.1) else ls.map (·.1) ++ [r] := by
  unfold putL
  rw [any_lk]
  split
  · rw [List.map_map]
    refine List.map_congr_left fun p _ => ?_
    simp only [Function.comp_apply]
    split <;> rfl
  · simp
theorem nd_put {ls : List (Int × Int)} (nd : (ls.map (·.1)).Nodup) (r c : Int) : ((putL ls r c).map (·.1)).Nodup := by
  rw [keys_put]
  split
  · exact nd
  · rename_i h
    have hn : lk ls r = none := by
      cases q : lk ls r with
      | none => rfl
      | some v => rw [q] at h; simp at h
    refine List.nodup_append.mpr ⟨nd, by simp, fun a ha b hb e => ?_⟩
    rw [List.mem_singleton.mp hb] at e
    rw [e] at ha
    exact lk_none hn ha
theorem len_put (ls : List (Int × Int)) (r c : Int) : (putL ls r c).length = if (lk ls r).isSome = true then ls.length else ls.length + 1 := by
  have := congrArg List.length (keys_put ls r c)
  rw [List.length_map] at this
  rw [this]
  split <;> simp
/-! ### a door's cost -/
/-- door d leads from a to b at the cost w -/
def Link (ds : List Door) (cs : List (Option Int)) (d a b w : Int) : Prop := ∃ (k : Nat) (c : List Nat), d = (k : Int) ∧ cs[k]? = some (some w) ∧ (ds[k]? = some (a, b, c) ∨ ds[k]? = some (b, a, c))
theorem Link.symm {ds : List Door} {cs : List (Option Int)} {d a b w : Int} (h : Link ds cs d a b w) : Link ds cs d b a w := by
  obtain ⟨k, c, e, h1, h2⟩ := h
  exact ⟨k, c, e, h1, h2.symm⟩
inductive RchC (ds : List Door) (cs : List (Option Int)) : Int → Int → Prop
  | refl (x : Int) : RchC ds cs x x
  | step {x y z d w : Int} : RchC ds cs x y → Link ds cs d y z w → RchC ds cs x z
/-- what the doors out of r ask of the others' labels, those of rest apart -/
def CloseX (ds : List Door) (cs : List (Option Int)) (ls : List (Int × Int)) (r v : Int) (rest : List (Int × Int)) : Prop := ∀ d b w, Link ds cs d r b w → (d, b) ∉ rest → ∃ u, lk ls b = some u ∧ u ≤ v + w
structure WCtx (n M : Int) (ds : List Door) (cs : List (Option Int)) (srcs : List Int) : Prop where
  n0 : 0 ≤ n
  m0 : 0 ≤ M
  ends : ∀ d ∈ ds, 0 ≤ d.1 ∧ d.1 < n ∧ 0 ≤ d.2.1 ∧ d.2.1 < n ∧ d.1 ≠ d.2.1
  cost : ∀ w, some w ∈ cs → 0 ≤ w ∧ w ≤ M
  src : ∀ r ∈ srcs, 0 ≤ r ∧ r < n
theorem WCtx.link {n M : Int} {ds : List Door} {cs : List (Option Int)} {srcs : List Int} (x : WCtx n M ds cs srcs) {d a b w : Int} (h : Link ds cs d a b w) : 0 ≤ a ∧ a < n ∧ 0 ≤ b ∧ b < n ∧ a ≠ b ∧ 0 ≤ w ∧ w ≤ M := by
  obtain ⟨k, c, e, h1, h2⟩ := h
  obtain ⟨c1, c2⟩ := x.cost w (List.mem_of_getElem? h1)
  rcases h2 with h2 | h2
  · obtain ⟨e1, e2, e3, e4, e5⟩ : 0 ≤ a ∧ a < n ∧ 0 ≤ b ∧ b < n ∧ a ≠ b := x.ends _ (List.mem_of_getElem? h2)
    exact ⟨e1, e2, e3, e4, e5, c1, c2⟩
  · obtain ⟨e1, e2, e3, e4, e5⟩ : 0 ≤ b ∧ b < n ∧ 0 ≤ a ∧ a < n ∧ b ≠ a := x.ends _ (List.mem_of_getElem? h2)
    exact ⟨e3, e4, e1, e2, e5.symm, c1, c2⟩
/-- the labels, the doors by which they came, what is still to be looked at; cur: the room whose doors are being looked at, with the rest of them -/
structure WInv (n M : Int) (ds : List Door) (cs : List (Option Int)) (srcs : List Int) (ls ms qs : List (Int × Int)) (cur : Option (Int × List (Int × Int))) : Prop where
  nd : (ls.map (·.1)).Nodup
  rng : ∀ r v, lk ls r = some v → 0 ≤ r ∧ r < n ∧ 0 ≤ v ∧ v + M ≤ ls.length * M
  src : ∀ r ∈ srcs, lk ls r = some 0
  que : ∀ c r, (c, r) ∈ qs → ∃ v, lk ls r = some v ∧ v ≤ c
  fix : ∀ r v, lk ls r = some v → (v, r) ∈ qs ∨ (∃ rest, cur = some (r, rest) ∧ CloseX ds cs ls r v rest) ∨ CloseX ds cs ls r v []
  made : ∀ r v, lk ls r = some v → (r ∈ srcs ∧ v = 0) ∨ ∃ d r' w v', lk ms r = some d ∧ Link ds cs d r' r w ∧ lk ls r' = some v' ∧ v' + w ≤ v
  mnd : (ms.map (·.1)).Nodup
  msk : ∀ r d, lk ms r = some d → ∃ v, lk ls r = some v
  rch : ∀ r v, lk ls r = some v → ∃ s ∈ srcs, RchC ds cs s r
def pot1 (n M : Int) (ls : List (Int × Int)) (r : Nat) : Nat := match lk ls r with
  | some v => v.toNat
  | none => (n * M).toNat + 1
def pot (n M : Int) (ls : List (Int × Int)) : Nat := ((List.range n.toNat).map (pot1 n M ls)).sum
theorem sum_lt : ∀ (l : List Nat) (f g : Nat → Nat) (x : Nat), x ∈ l → l.Nodup → f x < g x → (∀ y ∈ l, y ≠ x → f y = g y) → (l.map f).sum < (l.map g).sum
  | [], _, _, _, h, _, _, _ => by simp at h
  | a :: l, f, g, x, h, nd, hlt, heq => by
    rw [List.nodup_cons] at nd
    rw [List.map_cons, List.map_cons, List.sum_cons, List.sum_cons]
    rcases List.mem_cons.mp h with rfl | h
    · have : l.map f = l.map g := List.map_congr_left fun y hy => heq y (List.mem_cons_of_mem _ hy) fun e => nd.1 (by rw [← e]; exact hy)
      rw [this]
      omega
    · have ih := sum_lt l f g x h nd.2 hlt fun y hy hne => heq y (List.mem_cons_of_mem _ hy) hne
      have : f a = g a := heq a List.mem_cons_self fun e => nd.1 (by rw [e]; exact h)
      omega
theorem nodup_lt : ∀ {n : Nat} {l : List Nat}, l.Nodup → (∀ x ∈ l, x < n) → l.length ≤ n
  | 0, l, _, h => by
    cases l with
    | nil => simp
    | cons a l => exact absurd (h a List.mem_cons_self) (by omega)
  | n + 1, l, nd, h => by
    by_cases e : n ∈ l
    · have ih := nodup_lt (n := n) (nd.erase n) fun x hx => by
        have h1 := h x (List.mem_of_mem_erase hx)
        have h2 : x ≠ n := (nd.mem_erase_iff.mp hx).1
        omega
      rw [List.length_erase_of_mem e] at ih
      omega
    · have ih := nodup_lt (n := n) nd fun x hx => by
        have h1 := h x hx
        have h2 : x ≠ n := fun q => e (by rw [← q]; exact hx)
        omega
      omega
theorem nodup_len {l : List Int} {n : Int} (nd : l.Nodup) (h : ∀ x ∈ l, 0 ≤ x ∧ x < n) : (l.length : Int) ≤ n ∨ l = [] := by
  by_cases e : l = []
  · exact .inr e
  · left
    have sub : ∀ x ∈ l.map Int.toNat, x ∈ List.range n.toNat := fun x hx => by
      obtain ⟨y, hy, rfl⟩ := List.mem_map.mp hx
      have := h y hy
      exact List.mem_range.mpr (by omega)
    have nd2 : (l.map Int.toNat).Nodup := by
      refine List.pairwise_map.mpr (nd.imp_of_mem fun {a b} ha hb hab e => hab ?_)
      have h1 := h a ha
      have h2 := h b hb
      omega
    have := nodup_lt (l := l.map Int.toNat) nd2 fun x hx => List.mem_range.mp (sub x hx)
    simp at this
    obtain ⟨x, hx⟩ := List.exists_mem_of_ne_nil l e
    have := h x hx
    omega
end Lh

namespace Lh
open PySem PySem.Spec PyProof.Rows L2 SX
section
variable {n M : Int} {ds : List Door} {cs : List (Option Int)} {srcs : List Int} {ls ms qs : List (Int × Int)}
theorem WInv.len (x : WCtx n M ds cs srcs) {cur : Option (Int × List (Int × Int))} (h : WInv n M ds cs srcs ls ms qs cur) : (ls.length : Int) ≤ n := by
  have key : ∀ r ∈ ls.map (·.1), 0 ≤ r ∧ r < n := fun r hr => by
    obtain ⟨p, hp, rfl⟩ := List.mem_map.mp hr
    have q := h.rng p.1 p.2 (lk_mem h.nd hp)
    exact ⟨q.1, q.2.1⟩
  rcases nodup_len (n := n) h.nd key with e | e
  · simpa using e
  · have e2 := congrArg List.length e
    simp at e2
    have := x.n0
    rw [e2]
    simpa using this
theorem WInv.mlen (x : WCtx n M ds cs srcs) {cur : Option (Int × List (Int × Int))} (h : WInv n M ds cs srcs ls ms qs cur) : (ms.length : Int) ≤ n := by
  have key : ∀ r ∈ ms.map (·.1), 0 ≤ r ∧ r < n := fun r hr => by
    obtain ⟨p, hp, rfl⟩ := List.mem_map.mp hr
    obtain ⟨v, hv⟩ := h.msk p.1 p.2 (lk_mem h.mnd hp)
    have q := h.rng _ _ hv
    exact ⟨q.1, q.2.1⟩
  rcases nodup_len (n := n) h.mnd key with e | e
  · simpa using e
  · have e2 := congrArg List.length e
    simp at e2
    have := x.n0
    rw [e2]
    simpa using this
theorem lk_zero {srcs : List Int} {r v : Int} (h : lk (srcs.map fun r => (r, (0 : Int))) r = some v) : r ∈ srcs ∧ v = 0 := by
  have m := lk_some h
  obtain ⟨y, hy, e⟩ := List.mem_map.mp m
  cases e
  exact ⟨hy, rfl⟩
theorem WInv.start (x : WCtx n M ds cs srcs) (nd : srcs.Nodup) : WInv n M ds cs srcs (srcs.map fun r => (r, (0 : Int))) [] (srcs.map fun r => ((0 : Int), r)) none := by
  have nd' : ((srcs.map fun r => (r, (0 : Int))).map (·.1)).Nodup := by
    rw [List.map_map]
    have : (srcs.map ((fun p : Int × Int => p.1) ∘ fun r => (r, (0 : Int)))) = srcs := by
      rw [show ((fun p : Int × Int => p.1) ∘ fun r => (r, (0 : Int))) = id from rfl, List.map_id]
    rw [this]
    exact nd
  have src : ∀ r ∈ srcs, lk (srcs.map fun r => (r, (0 : Int))) r = some 0 := fun r hr => lk_mem nd' (List.mem_map.mpr ⟨r, hr, rfl⟩)
  refine ⟨nd', fun r v h => ?_, src, fun c r h => ?_, fun r v h => .inl ?_, fun r v h => .inl (lk_zero h), by simp, fun r d h => by simp [lk] at h, fun r v h => ⟨r, (lk_zero h).1, .refl r⟩⟩
  · obtain ⟨h1, rfl⟩ := lk_zero h
    obtain ⟨a, b⟩ := x.src r h1
    refine ⟨a, b, Int.le_refl 0, ?_⟩
    rw [List.length_map]
    have : 1 ≤ srcs.length := List.length_pos_of_mem h1
    have m0 := x.m0
    have : (1 : Int) * M ≤ srcs.length * M := Int.mul_le_mul_of_nonneg_right (by omega) m0
    omega
  · obtain ⟨y, hy, e⟩ := List.mem_map.mp h
    cases e
    exact ⟨0, src _ hy, Int.le_refl 0⟩
  · obtain ⟨h1, rfl⟩ := lk_zero h
    exact List.mem_map.mpr ⟨r, h1, rfl⟩
/-- the queue in another order -/
theorem WInv.perm {cur : Option (Int × List (Int × Int))} {qs' : List (Int × Int)} (h : WInv n M ds cs srcs ls ms qs cur) (p : qs'.Perm qs) : WInv n M ds cs srcs ls ms qs' cur :=
  ⟨h.nd, h.rng, h.src, fun c r m => h.que c r (p.mem_iff.mp m), fun r v e => (h.fix r v e).elim (fun m => .inl (p.mem_iff.mpr m)) .inr, h.made, h.mnd, h.msk, h.rch⟩
/-- an outdated one -/
theorem WInv.skip {c r v : Int} (h : WInv n M ds cs srcs ls ms ((c, r) :: qs) none) (hv : lk ls r = some v) (hc : v < c) : WInv n M ds cs srcs ls ms qs none := by
  refine ⟨h.nd, h.rng, h.src, fun c' r' m => h.que c' r' (List.mem_cons_of_mem _ m), fun r' v' e => ?_, h.made, h.mnd, h.msk, h.rch⟩
  rcases h.fix r' v' e with m | m
  · rcases List.mem_cons.mp m with q | q
    · cases q
      rw [hv] at e
      cases e
      omega
    · exact .inl q
  · exact .inr m
/-- one that is looked at -/
theorem WInv.pick {c r : Int} {rest : List (Int × Int)} (h : WInv n M ds cs srcs ls ms ((c, r) :: qs) none) (hv : lk ls r = some c) (hr : ∀ d b w, Link ds cs d r b w → (d, b) ∈ rest) : WInv n M ds cs srcs ls ms qs (some (r, rest)) := by
  refine ⟨h.nd, h.rng, h.src, fun c' r' m => h.que c' r' (List.mem_cons_of_mem _ m), fun r' v' e => ?_, h.made, h.mnd, h.msk, h.rch⟩
  rcases h.fix r' v' e with m | ⟨_, m, _⟩ | m
  · rcases List.mem_cons.mp m with q | q
    · cases q
      exact .inr (.inl ⟨rest, rfl, fun d b w l z => absurd (hr d b w l) z⟩)
    · exact .inl q
  · cases m
  · exact .inr (.inr m)
/-- a door that asks nothing -/
theorem WInv.past {r d b c : Int} {rest : List (Int × Int)} (h : WInv n M ds cs srcs ls ms qs (some (r, (d, b) :: rest))) (hv : lk ls r = some c) (hok : ∀ w, Link ds cs d r b w → ∃ u, lk ls b = some u ∧ u ≤ c + w) : WInv n M ds cs srcs ls ms qs (some (r, rest)) := by
  refine ⟨h.nd, h.rng, h.src, h.que, fun r' v' e => ?_, h.made, h.mnd, h.msk, h.rch⟩
  rcases h.fix r' v' e with m | ⟨rest', m, q⟩ | m
  · exact .inl m
  · cases m
    rw [hv] at e
    cases e
    refine .inr (.inl ⟨rest, rfl, fun d' b' w l z => ?_⟩)
    by_cases eq : (d', b') = (d, b)
    · cases eq
      exact hok w l
    · exact q d' b' w l (by simp only [List.mem_cons, not_or]; exact ⟨eq, z⟩)
  · exact .inr (.inr m)
/-- all of a room's doors are done -/
theorem WInv.leave {r : Int} (h : WInv n M ds cs srcs ls ms qs (some (r, []))) : WInv n M ds cs srcs ls ms qs none := by
  refine ⟨h.nd, h.rng, h.src, h.que, fun r' v' e => ?_, h.made, h.mnd, h.msk, h.rch⟩
  rcases h.fix r' v' e with m | ⟨rest', m, q⟩ | m
  · exact .inl m
  · cases m
    exact .inr (.inr q)
  · exact .inr (.inr m)
/-- a label bettered -/
theorem WInv.better (x : WCtx n M ds cs srcs) {r d b c w : Int} {rest : List (Int × Int)} (h : WInv n M ds cs srcs ls ms qs (some (r, (d, b) :: rest))) (hv : lk ls r = some c) (hl : Link ds cs d r b w) (hb : ∀ u, lk ls b = some u → c + w < u) :
    WInv n M ds cs srcs (putL ls b (c + w)) (putL ms b d) ((c + w, b) :: qs) (some (r, rest)) ∧ pot n M (putL ls b (c + w)) < pot n M ls := by
  obtain ⟨r0, r1, b0, b1, hrb, w0, w1⟩ := x.link hl
  obtain ⟨_, _, c0, c1⟩ := h.rng r c hv
  have low : ∀ j v, lk ls j = some v → ∃ u, lk (putL ls b (c + w)) j = some u ∧ u ≤ v := fun j v e => by
    rw [lk_put]
    by_cases ej : j = b
    · subst ej
      rw [if_pos rfl]
      exact ⟨_, rfl, Int.le_of_lt (hb v e)⟩
    · rw [if_neg ej]
      exact ⟨v, e, Int.le_refl v⟩
  have close : ∀ j v rest', CloseX ds cs ls j v rest' → CloseX ds cs (putL ls b (c + w)) j v rest' := fun j v rest' q d' b' w' l z => by
    obtain ⟨u, hu, le⟩ := q d' b' w' l z
    obtain ⟨u', hu', le'⟩ := low b' u hu
    exact ⟨u', hu', Int.le_trans le' le⟩
  have hll : ls.length ≤ (putL ls b (c + w)).length := by
    rw [len_put]
    split <;> omega
  have mono : (ls.length : Int) * M ≤ (putL ls b (c + w)).length * M := Int.mul_le_mul_of_nonneg_right (by omega) x.m0
  have bound : c + w + M ≤ (putL ls b (c + w)).length * M := by
    cases e : lk ls b with
    | some u =>
      have q := h.rng b u e
      have := hb u e
      omega
    | none =>
      have e2 : (putL ls b (c + w)).length = ls.length + 1 := by rw [len_put, e]; simp
      rw [e2]
      have : ((ls.length + 1 : Nat) : Int) * M = ls.length * M + M := by rw [Int.natCast_add, Int.add_mul]; simp
      rw [this]
      omega
  have hrk : lk (putL ls b (c + w)) r = some c := by rw [lk_put, if_neg hrb]; exact hv
  refine ⟨⟨nd_put h.nd _ _, fun j v e => ?_, fun j hj => ?_, fun c' r' m => ?_, fun j v e => ?_, fun j v e => ?_, nd_put h.mnd _ _, fun j d' e => ?_, fun j v e => ?_⟩, ?_⟩
  · rw [lk_put] at e
    by_cases ej : j = b
    · subst ej
      rw [if_pos rfl] at e
      cases e
      exact ⟨b0, b1, by omega, bound⟩
    · rw [if_neg ej] at e
      obtain ⟨q1, q2, q3, q4⟩ := h.rng j v e
      exact ⟨q1, q2, q3, by omega⟩
  · have e := h.src j hj
    by_cases ej : j = b
    · subst ej
      have := hb 0 e
      omega
    · rw [lk_put, if_neg ej]
      exact e
  · rcases List.mem_cons.mp m with q | q
    · cases q
      exact ⟨c + w, by rw [lk_put, if_pos rfl], Int.le_refl _⟩
    · obtain ⟨v, e, le⟩ := h.que c' r' q
      obtain ⟨u, e', le'⟩ := low _ _ e
      exact ⟨u, e', Int.le_trans le' le⟩
  · rw [lk_put] at e
    by_cases ej : j = b
    · subst ej
      rw [if_pos rfl] at e
      cases e
      exact .inl List.mem_cons_self
    · rw [if_neg ej] at e
      rcases h.fix j v e with m | ⟨rest', m, q⟩ | m
      · exact .inl (List.mem_cons_of_mem _ m)
      · cases m
        rw [hv] at e
        cases e
        refine .inr (.inl ⟨rest, rfl, fun d' b' w' l z => ?_⟩)
        by_cases eq : (d', b') = (d, b)
        · cases eq
          refine ⟨c + w, by rw [lk_put, if_pos rfl], ?_⟩
          obtain ⟨k, _, ek, hk, _⟩ := hl
          obtain ⟨k', _, ek', hk', _⟩ := l
          have : k = k' := by omega
          subst this
          rw [hk] at hk'
          cases hk'
          exact Int.le_refl _
        · exact close _ _ _ q d' b' w' l (by simp only [List.mem_cons, not_or]; exact ⟨eq, z⟩)
      · exact .inr (.inr (close _ _ _ m))
  · rw [lk_put] at e
    by_cases ej : j = b
    · subst ej
      rw [if_pos rfl] at e
      cases e
      exact .inr ⟨d, r, w, c, by rw [lk_put, if_pos rfl], hl, hrk, Int.le_refl _⟩
    · rw [if_neg ej] at e
      rcases h.made j v e with q | ⟨d', r', w', v', q1, q2, q3, q4⟩
      · exact .inl q
      · obtain ⟨u, hu, le⟩ := low _ _ q3
        exact .inr ⟨d', r', w', u, by rw [lk_put, if_neg ej]; exact q1, q2, hu, by omega⟩
  · rw [lk_put] at e
    by_cases ej : j = b
    · subst ej
      exact ⟨_, by rw [lk_put, if_pos rfl]⟩
    · rw [if_neg ej] at e
      obtain ⟨v, hv⟩ := h.msk j d' e
      obtain ⟨u, hu, _⟩ := low _ _ hv
      exact ⟨u, hu⟩
  · rw [lk_put] at e
    by_cases ej : j = b
    · subst ej
      obtain ⟨s, hs, q⟩ := h.rch r c hv
      exact ⟨s, hs, q.step hl⟩
    · rw [if_neg ej] at e
      exact h.rch j v e
  · unfold pot
    have hbn : b.toNat ∈ List.range n.toNat := List.mem_range.mpr (by omega)
    have eb : ((b.toNat : Nat) : Int) = b := by omega
    refine sum_lt _ _ _ b.toNat hbn List.nodup_range ?_ fun y hy hne => ?_
    · unfold pot1
      rw [eb, lk_put, if_pos rfl]
      cases e : lk ls b with
      | some u =>
        have := hb u e
        show (c + w).toNat < u.toNat
        omega
      | none =>
        show (c + w).toNat < (n * M).toNat + 1
        have hlen := h.len x
        have : (ls.length : Int) * M ≤ n * M := Int.mul_le_mul_of_nonneg_right hlen x.m0
        omega
    · unfold pot1
      have : ¬ (y : Int) = b := fun z => hne (by omega)
      rw [lk_put, if_neg this]
/-- the end -/
theorem WInv.done (h : WInv n M ds cs srcs ls ms [] none) : ∀ r v, lk ls r = some v → CloseX ds cs ls r v [] := fun r v e => by
  rcases h.fix r v e with m | ⟨_, m, _⟩ | m
  · simp at m
  · cases m
  · exact m
theorem WInv.all (h : WInv n M ds cs srcs ls ms [] none) {s r : Int} (hs : s ∈ srcs) (q : RchC ds cs s r) : ∃ v, lk ls r = some v := by
  induction q with
  | refl => exact ⟨0, h.src _ hs⟩
  | step _ l ih =>
    obtain ⟨v, hv⟩ := ih
    obtain ⟨u, hu, _⟩ := h.done _ _ hv _ _ _ l (by simp)
    exact ⟨u, hu⟩
end
end Lh
set_option Elab.async false
set_option linter.all false
set_option maxRecDepth 100000
set_option maxHeartbeats 4000000
namespace Lh
open PySem PySem.Spec PyProof.Rows L2 SX
theorem nd_sub {α : Type} [DecidableEq α] : ∀ {l m : List α}, l.Nodup → (∀ x ∈ l, x ∈ m) → l.length ≤ m.length
  | [], _, _, _ => Nat.zero_le _
  | a :: l, m, nd, h => by
    rw [List.nodup_cons] at nd
    have ha := h a List.mem_cons_self
    have ih := nd_sub (l := l) (m := m.erase a) nd.2 fun x hx => by
      have hne : x ≠ a := fun e => nd.1 (by rw [← e]; exact hx)
      exact (List.mem_erase_of_ne hne).mpr (h x (List.mem_cons_of_mem _ hx))
    rw [List.length_erase_of_mem ha] at ih
    have := List.length_pos_of_mem ha
    rw [List.length_cons]
    omega
theorem nd_same {α : Type} [DecidableEq α] {l m : List α} (nl : l.Nodup) (h : ∀ x ∈ l, x ∈ m) (hlen : m.length ≤ l.length) : ∀ x ∈ m, x ∈ l := fun x hx => by
  by_cases q : x ∈ l
  · exact q
  · have := nd_sub (l := x :: l) (m := m) (List.nodup_cons.mpr ⟨q, nl⟩) fun y hy => by
      rcases List.mem_cons.mp hy with rfl | hy
      · exact hx
      · exact h y hy
    rw [List.length_cons] at this
    omega
theorem nd_of_len {α : Type} [DecidableEq α] {g ks : List α} (nk : ks.Nodup) (h : ∀ x, x ∈ ks ↔ x ∈ g) (hl : ks.length = g.length) : g.Nodup := by
  refine List.nodup_iff_count.mpr fun a => ?_
  refine Decidable.byContradiction fun hc => ?_
  have h2 : 2 ≤ g.count a := by omega
  have ha : a ∈ g := List.count_pos_iff.mp (by omega)
  have sub : ∀ x ∈ ks, x ∈ g.erase a := fun x hx => by
    by_cases e : x = a
    · subst e
      refine List.count_pos_iff.mp ?_
      rw [List.count_erase_self]
      omega
    · exact (List.mem_erase_of_ne e).mpr ((h x).mp hx)
  have := nd_sub nk sub
  rw [List.length_erase_of_mem ha] at this
  have := List.length_pos_of_mem ha
  omega
/-- the doors' sources: tuples or lists of two rooms and a cycle -/
def SrcDoor (H : Hp) (v : V) (d : Door) : Prop := ∃ r, v = .ref r ∧ (H r = some (.tup [.int d.1, .int d.2.1, .str (S d.2.2)]) ∨ H r = some (.lst [.int d.1, .int d.2.1, .str (S d.2.2)]))
theorem SrcDoor.same {H H' : Hp} (s : Same H H') (v : V) (d : Door) (h : SrcDoor H v d) : SrcDoor H' v d := by
  obtain ⟨r, e, h⟩ := h
  exact ⟨r, e, h.elim (fun q => .inl (s _ _ q)) fun q => .inr (s _ _ q)⟩
theorem IsDoor.src {H : Hp} (v : V) (d : Door) (h : IsDoor H v d) : SrcDoor H v d := by
  obtain ⟨r, e, h⟩ := h
  exact ⟨r, e, .inl h⟩
/-- a row of doors' sources, a list or a tuple -/
def SrcDoors (H : Hp) (a : Addr) (ds : List Door) : Prop := ∃ refs, (H a = some (.lst refs) ∨ H a = some (.tup refs)) ∧ All2 (SrcDoor H) refs ds
theorem SrcDoors.same {H H' : Hp} (s : Same H H') {a : Addr} {ds : List Door} (h : SrcDoors H a ds) : SrcDoors H' a ds := by
  obtain ⟨refs, h1, h2⟩ := h
  exact ⟨refs, h1.elim (fun q => .inl (s _ _ q)) fun q => .inr (s _ _ q), h2.imp fun v d q => q.same s⟩
/-! ### either of two readings -/
section
variable {X : Cx}
def gOr (g1 g2 : TG) : TG := fun v σ H Q => g1 v σ H Q ∨ g2 v σ H Q
theorem pg_or {tg : Expr} {g1 g2 : TG} (h1 : PG X tg g1) (h2 : PG X tg g2) : PG X tg (gOr g1 g2) := by
  refine ⟨fun pins s σ H v u Q I r h => ?_⟩
  rcases h with h | h
  · exact h1.run pins s σ H v u Q I r h
  · exact h2.run pins s σ H v u Q I r h
theorem pi_or {tg iter : Expr} {w1 w2 : TI} (h1 : PI X tg iter w1) (h2 : PI X tg iter w2) : PI X tg iter (fun σ H R => w1 σ H R ∨ w2 σ H R) := by
  refine ⟨fun pins s σ H R I h => ?_⟩
  rcases h with h | h
  · exact h1.run pins s σ H R I h
  · exact h2.run pins s σ H R I h
end
end Lh
set_option Elab.async false
set_option linter.all false
set_option maxRecDepth 100000
set_option maxHeartbeats 8000000
namespace Lh
open PySem PySem.Spec PyProof.Rows L2 SX
section
variable {P : Program} {w : World} {K : PySem.W.Frag} {mg : Str → Option Value} {base : Heap}
theorem scLet : FnScope ["sign"] ["sign"] (defScope (top 35)) := ⟨rfl, rfl, rfl, by decide +kernel, rfl, by decide +kernel, by decide +kernel⟩
def isLet (c : Nat) : Bool := decide (65 ≤ c ∧ c ≤ 90)
def spLet : Sp := fun vs H Q _ => ∃ c : Nat, vs = [.str (S [c])] ∧ Q (.bl (isLet c)) H
theorem ok_let (B : Blt mg) (D : Dfn K mg "is_letter" (top 35)) : Cal P w K mg base CX0 1 "is_letter" ["sign"] spLet := by
  have S' := scLet
  refine D.cal0 scLet (fun vs H Q E h => ?_) (fun _ _ _ _ _ _ us hl => match us, hl with | [_], _ => rfl) (fun f cdv A outer s H vs Q E hr h => ?_)
  · obtain ⟨c, rfl, _⟩ := h
    rfl
  · obtain ⟨c, rfl, kQ⟩ := h
    refine ⟨_, (pss_one (ps_ret (pe_chain op_le_str op_le_str pe_str (pv 0) pe_str))), ?_⟩
    have e1 : (Str.ofString "A").cps.toList = [65] := by decide +kernel
    have e2 : (Str.ofString "Z").cps.toList = [90] := by decide +kernel
    refine ⟨_, rfl, _, _, rfl, rfl, _, rfl, ?_⟩
    rw [e1, codes]
    have l1 : ([c] < [65]) ↔ c < 65 := by simp [List.cons_lt_cons_iff]
    have l2 : ([90] < [c]) ↔ 90 < c := by simp [List.cons_lt_cons_iff]
    by_cases h1 : c < 65
    · rw [decide_eq_true (l1.mpr h1)]
      have e : isLet c = false := by unfold isLet; simp; omega
      rw [e] at kQ
      exact iteF kQ
    · rw [decide_eq_false (fun z => h1 (l1.mp z))]
      refine iteT ⟨_, _, rfl, rfl, ?_⟩
      rw [e2, codes]
      have e : (!decide ([90] < [c])) = isLet c := by
        unfold isLet
        by_cases h2 : 90 < c
        · rw [decide_eq_true (l2.mpr h2)]
          simp
          omega
        · rw [decide_eq_false (fun z => h2 (l2.mp z))]
          simp
          omega
      rw [e]
      exact kQ
theorem scHR : FnScope ["house", "room"] ["house", "room"] (defScope (top 39)) := ⟨rfl, rfl, rfl, by decide +kernel, rfl, by decide +kernel, by decide +kernel⟩
def spHR (K : PySem.W.Frag) : Sp := fun vs H Q _ => ∃ (p : Addr) (n : Int) (g : List Nat) (ds : List Door) (r : Int), vs = [.ref p, .int r] ∧ HouseAt K H p n g ds ∧ Q (.bl (decide (0 ≤ r ∧ r < n))) H
theorem ok_hr (B : Blt mg) (D : Dfn K mg "has_room" (top 39)) : Cal P w K mg base CX0 1 "has_room" ["house", "room"] (spHR K) := by
  have S' := scHR
  refine D.cal0 scHR (fun vs H Q E h => ?_) (fun _ _ _ _ _ _ us hl => match us, hl with | [_, _], _ => rfl) (fun f cdv A outer s H vs Q E hr h => ?_)
  · obtain ⟨p, n, g, ds, r, rfl, _⟩ := h
    rfl
  · obtain ⟨p, n, g, ds, r, rfl, ha, kQ⟩ := h
    obtain ⟨C, dx, t, refs, hc, h1, h2, h3⟩ := ha.ex
    refine ⟨_, (pss_one (ps_ret (pe_chain op_le op_lt pe_int (pv 1) (pe_fld (pv 0) rfl)))), ?_⟩
    refine ⟨_, rfl, _, _, rfl, rfl, _, rfl, ?_⟩
    by_cases h0 : 0 ≤ r
    · rw [decide_eq_true h0]
      refine iteT ⟨_, rfl, p, C, dx, _, _, rfl, h1, hc.cl, hc.nR, rfl, _, _, rfl, rfl, ?_⟩
      have e : decide (0 ≤ r ∧ r < n) = decide (r < n) := by simp [h0]
      rw [e] at kQ
      exact kQ
    · rw [decide_eq_false h0]
      have e : decide (0 ≤ r ∧ r < n) = false := by simp [h0]
      rw [e] at kQ
      exact iteF kQ
theorem scHD : FnScope ["house", "door"] ["house", "door"] (defScope (top 40)) := ⟨rfl, rfl, rfl, by decide +kernel, rfl, by decide +kernel, by decide +kernel⟩
def spHD (K : PySem.W.Frag) : Sp := fun vs H Q _ => ∃ (p : Addr) (n : Int) (g : List Nat) (ds : List Door) (r : Int), vs = [.ref p, .int r] ∧ HouseAt K H p n g ds ∧ Q (.bl (decide (0 ≤ r ∧ r < ds.length))) H
theorem ok_hd (B : Blt mg) (D : Dfn K mg "has_door" (top 40)) : Cal P w K mg base CX0 1 "has_door" ["house", "door"] (spHD K) := by
  have S' := scHD
  refine D.cal0 scHD (fun vs H Q E h => ?_) (fun _ _ _ _ _ _ us hl => match us, hl with | [_, _], _ => rfl) (fun f cdv A outer s H vs Q E hr h => ?_)
  · obtain ⟨p, n, g, ds, r, rfl, _⟩ := h
    rfl
  · obtain ⟨p, n, g, ds, r, rfl, ha, kQ⟩ := h
    obtain ⟨C, dx, t, refs, hc, h1, h2, h3⟩ := ha.ex
    refine ⟨_, (pss_one (ps_ret (pe_chain op_le op_lt pe_int (pv 1) (pe_callB call_len_seq (by rfl) B.len PySem.boot_len (pa_cons (pe_fld (pv 0) rfl) pa_nil))))), ?_⟩
    refine ⟨_, rfl, _, _, rfl, rfl, _, rfl, ?_⟩
    rw [← h3.len] at kQ
    by_cases h0 : 0 ≤ r
    · rw [decide_eq_true h0]
      refine iteT ⟨_, rfl, p, C, dx, _, _, rfl, h1, hc.cl, hc.nD, rfl, t, refs, rfl, .inr (SqT.of h2), _, _, rfl, rfl, ?_⟩
      have e : decide (0 ≤ r ∧ r < refs.length) = decide (r < refs.length) := by simp [h0]
      rw [e] at kQ
      exact kQ
    · rw [decide_eq_false h0]
      have e : decide (0 ≤ r ∧ r < refs.length) = false := by simp [h0]
      rw [e] at kQ
      exact iteF kQ
end
end Lh
set_option Elab.async false
set_option linter.all false
set_option maxRecDepth 100000
set_option maxHeartbeats 4000000
namespace Lh
open PySem PySem.Spec PyProof.Rows L2 SX
section
variable {P : Program} {w : World} {K : PySem.W.Frag} {mg : Str → Option Value} {base : Heap}
theorem scII : FnScope ["_law_actual"] ["_law_actual"] (defScope (top 58)) := ⟨rfl, rfl, rfl, by decide +kernel, rfl, by decide +kernel, by decide +kernel⟩
theorem scIL : FnScope ["_law_actual", "_law_number"] ["_law_actual"] (defScope (top 59)) := ⟨rfl, rfl, rfl, by decide +kernel, rfl, by decide +kernel, by decide +kernel⟩
theorem kit_ii {K : PySem.W.Frag} : PySem.W.kitOne K (.type "int") (.type "int") = some true := kit_ty (by decide +kernel)
theorem kit_ib {K : PySem.W.Frag} : PySem.W.kitOne K (.type "int") (.type "bool") = some false := kit_ty (by decide +kernel)
theorem kit_bb {K : PySem.W.Frag} : PySem.W.kitOne K (.type "bool") (.type "bool") = some true := kit_ty (by decide +kernel)
theorem kit_ll {K : PySem.W.Frag} : PySem.W.kitOne K (.type "list") (.type "list") = some true := kit_ty (by decide +kernel)
theorem kit_tt {K : PySem.W.Frag} : PySem.W.kitOne K (.type "tuple") (.type "tuple") = some true := kit_ty (by decide +kernel)
def spII : Sp := fun vs H Q _ => ∃ i : Int, vs = [.int i] ∧ Q (.bl true) H
def spIL (K : PySem.W.Frag) : Sp := fun vs H Q _ => ∃ (l : Addr) (xs : List Int), vs = [.ref l] ∧ H l = some (.lst (xs.map V.int)) ∧ xs.length ≤ 100000 ∧ ∀ H' : Hp, Same H H' → Q (.bl true) H'
theorem ok_ii (B : Blt mg) (D : Dfn K mg "_law_is_integer" (top 58)) : Cal P w K mg base CX0 1 "_law_is_integer" ["_law_actual"] spII := by
  have S' := scII
  refine D.cal0 scII (fun vs H Q E h => ?_) (fun _ _ _ _ _ _ us hl => match us, hl with | [_], _ => rfl) (fun f cdv A outer s H vs Q E hr h => ?_)
  · obtain ⟨i, rfl, _⟩ := h
    rfl
  · obtain ⟨i, rfl, kQ⟩ := h
    refine ⟨_, (pss_one (ps_ret (pe_and (pe_callB call_isi (by rfl) B.isinstance (by decide +kernel) (pa_cons (pv 0) (pa_cons (pe_bltn (v := .ty "int") (u := .type "int") (by rfl) B.int (by decide +kernel) rfl) pa_nil))) (pe_one (pe_not (pe_callB call_isi (by rfl) B.isinstance (by decide +kernel) (pa_cons (pv 0) (pa_cons (pe_bltn (v := .ty "bool") (u := .type "bool") (by rfl) B.bool (by decide +kernel) rfl) pa_nil)))))))), ?_⟩
    refine ⟨_, rfl, _, _, _, _, _, rfl, .ty "int", .base (.int i), kit_ii, ?_⟩
    refine ⟨true, rfl, ?_⟩
    refine ⟨_, rfl, _, _, _, _, _, rfl, .ty "bool", .base (.int i), kit_ib, ?_⟩
    exact ⟨false, rfl, kQ⟩
theorem ok_il (B : Blt mg) (D : Dfn K mg "_law_integers" (top 59)) (c_law_is_integer : Cal P w K mg base CX0 1 "_law_is_integer" ["_law_actual"] spII) : Cal P w K mg base CX0 2 "_law_integers" ["_law_actual"] (spIL K) := by
  have S' := scIL
  refine D.cal0 scIL (fun vs H Q E h => ?_) (fun _ _ _ _ _ _ us hl => match us, hl with | [_], _ => rfl) (fun f cdv A outer s H vs Q E hr h => ?_)
  · obtain ⟨l, xs, rfl, _⟩ := h
    rfl
  · obtain ⟨l, xs, rfl, hl, hx, kQ⟩ := h
    refine ⟨_, (pss_cons (ps_if (pt_not (pt_val (pe_callB call_isi (by rfl) B.isinstance (by decide +kernel) (pa_cons (pv 0) (pa_cons (pe_bltn (v := .ty "list") (u := .type "list") (by rfl) B.list (by decide +kernel) rfl) pa_nil))))) (pss_one (ps_ret pe_bl)) pss_nil)
 (pss_one (ps_ret (pe_callB (cr_all rfl) (by rfl) B.all (by decide +kernel) (pa_cons (pe_lc (own := [("_law_number", 1)]) (g := gName 1) (by rfl) S'.nd (pi_list (pv 0)) (blkOk_by (N := ["_law_actual", "_law_number"]) (sc := defScope (top 59)) (by decide +kernel)) (fun _ _ _ _ _ => (pg_name (i := 1) S'.nd rfl (Or.inl rfl))) (fun _ _ _ _ _ => pts_nil) (fun _ _ _ _ _ => (pcl c_law_is_integer hr (pa_cons (pv 1) pa_nil)))) pa_nil))))), ?_⟩
    refine ⟨_, rfl, _, _, _, _, _, rfl, .ty "list", .base (.lst hl), kit_ll, ?_⟩
    refine ⟨true, rfl, ?_⟩
    refine ite2 (fun e => nomatch e) (fun _ => ?_)
    refine ⟨_, rfl, l, rfl, ⟨_, SqL.of hl⟩, fun D hD => lc_it (walk_list (xs := xs.map V.int)) (fun i H' => H' = upd H D (.lst (((xs.take i).map fun _ => true).map V.bl))) rfl ?_ ?_ ?_⟩
    · rintro i H' _ rfl
      exact SqL.of (nk hl hD)
    · rintro i x H' H'' hi rfl ⟨rfl, hx2⟩
      rw [List.getElem?_map] at hx2
      obtain ⟨z, hz, rfl⟩ := Option.map_eq_some_iff.mp hx2
      refine ⟨rfl, _, rfl, _, rfl, _, upd_same, ?_, ?_⟩
      · rw [List.length_map, List.length_map, List.length_take]
        exact Nat.lt_of_le_of_lt (by omega : _ ≤ 100000) (by decide)
      · rw [upd_upd, List.take_add_one, hz]
        simp
    · rintro H' rfl
      refine ⟨D, _, rfl, SqL.of upd_same, ?_⟩
      have e : (((xs.take (xs.map V.int).length).map fun _ => true).all id) = true := by simp
      rw [e]
      exact kQ _ (same_new hD)
end
end Lh
set_option Elab.async false
set_option linter.all false
set_option maxRecDepth 100000
set_option maxHeartbeats 4000000
/-! Errors of the program: how they are raised, what leaves a def. -/
namespace Lh
open PySem PySem.Spec PyProof.Rows L2 SX SkE
/-- an own class over ValueError, directly or by way of another -/
structure ExcC (K : PySem.W.Frag) (mg : Str → Option Value) (x : Str) (C : Addr) : Prop where
  g : mg x = some (.ref C)
  ex : PySem.W.excIn K C He.veBase "ValueError.__new__" = true
  kp : PySem.W.keepIn K (.ref C) = true
  sb : PySem.W.subIn K (.ref C) (.type "BaseException") = some true
  ty : PySem.W.typeIn K (.ref C) = some (.type "type")
section
variable {X : Cx} {x : Str} {ps : List Str} {j k : Nat} {sp : Sp} {e : Expr} {es : List Expr} {p pos : Pos} {t : TA}
/-- f(a, ..), in a def that lets out what f lets out -/
theorem pclX {E : XK} (C : Cal X.prog X.w X.K X.mg X.base (L2.CX X.prog X.w) k x ps sp) (hr : Room j X.A) (tk : Takes X (fun cls d _ H => E cls d H)) (ha : PA X (e :: es) t) (hk : k ≤ j := by decide) (hg : Gl X x := by rfl) (hdb : (x == ("__debug__" : Str)) = false := by decide)
    (he : starEach (e :: es) X.env = (false, eval e X.env) :: starEach es X.env := by rfl) (hpl : (backTo pos (starEach es X.env)).any (·.1) = false := by rfl) :
    PE X (.Call (.Name x p) (e :: es) [] pos) (tCall sp [] E t) := by
  obtain ⟨f, fd, F, g, kp, b⟩ := C.ex
  exact pe_call F (hr.mono hk) hg g kp b .nil (passes_call tk fun _ _ _ _ h => h) ha hdb he hpl
/-- f(a, ..), within a try -/
theorem pclS {W : WX} (C : Cal X.prog X.w X.K X.mg X.base (L2.CX X.prog X.w) k x ps sp) (hr : Room j X.A) (tk : Takes X W) (ha : PA X (e :: es) t) (hk : k ≤ j := by decide) (hg : Gl X x := by rfl) (hdb : (x == ("__debug__" : Str)) = false := by decide)
    (he : starEach (e :: es) X.env = (false, eval e X.env) :: starEach es X.env := by rfl) (hpl : (backTo pos (starEach es X.env)).any (·.1) = false := by rfl) :
    PE X (.Call (.Name x p) (e :: es) [] pos) (tCallS sp (WE W) t) := by
  obtain ⟨f, fd, F, g, kp, b⟩ := C.ex
  exact pe_callS F (hr.mono hk) hg g kp b (fun σ => passAt tk σ) ha hdb he hpl
/-- raise X(e) -/
theorem ps_raiseC {C : Addr} {pos' : Pos} {W : WX} {te : TE} (c : ExcC X.K X.mg x C) (hc : X.calm = true) (tk : Takes X W) (he : PE X e te) (hg : Gl X x := by rfl) (hs : starEach [e] X.env = (false, eval e X.env) :: starEach [] X.env := by rfl) (hdb : (x == ("__debug__" : Str)) = false := by decide) :
    PS X (.Raise (some (.Call (.Name x p) [e] [] pos)) none pos') (fun _ σ H => te σ H fun _ H1 => W (.ref C) none σ H1) :=
  ps_raise hc tk (pmk_own1 PySem.F.excBase_ValueError c.ex c.g c.kp (raises_own c.sb c.ty) hg he hs hdb)
end
end Lh
set_option Elab.async false
set_option linter.all false
set_option maxRecDepth 100000
set_option maxHeartbeats 8000000
namespace Lh
open PySem PySem.Spec PyProof.Rows L2 SX
section
variable {P : Program} {w : World} {K : PySem.W.Frag} {mg : Str → Option Value} {base : Heap}
theorem scNR : FnScope ["house", "rooms", "room"] ["house", "rooms"] (defScope (top 41)) := ⟨rfl, rfl, rfl, by decide +kernel, rfl, by decide +kernel, by decide +kernel⟩
/-- numbers that a text can tell -/
def Tell (i : Int) : Prop := i.natAbs.log2 < 1920
def spNR (K : PySem.W.Frag) (CU : Addr) : Sp := fun vs H Q E => ∃ (p rl : Addr) (n : Int) (g : List Nat) (ds : List Door) (rs : List Int), vs = [.ref p, .ref rl] ∧ HouseAt K H p n g ds ∧ SqL K H rl (rs.map V.int) ∧ (∀ r ∈ rs, Tell r) ∧
  ((∀ r ∈ rs, 0 ≤ r ∧ r < n) → Q .non H) ∧ ((¬ ∀ r ∈ rs, 0 ≤ r ∧ r < n) → E (.ref CU) none H)
theorem toStr_len {i : Int} (h : Tell i) : (toString i : Str).length ≤ 1921 := PyProof.Rows.int_text_len_1921 h
theorem app_len {a b : Str} {m n : Nat} (ha : a.length ≤ m) (hb : b.length ≤ n) (h : m + n ≤ 10000) : (a ++ b).length ≤ sizeLine := by
  rw [Str.length_append]
  exact Nat.le_trans (by omega : _ ≤ 10000) (by decide)
theorem ok_nr {CU : Addr} (B : Blt mg) (D : Dfn K mg "need_rooms" (top 41)) (eU : ExcC K mg "UnknownPart" CU) (c_has_room : Cal P w K mg base CX0 1 "has_room" ["house", "room"] (spHR K)) : Cal P w K mg base (L2.CX P w) 2 "need_rooms" ["house", "rooms"] (spNR K CU) := by
  have S' := scNR
  refine D.cal scNR (fun vs H Q E h => ?_) (fun _ _ _ _ _ _ us hl => match us, hl with | [_, _], _ => rfl) (fun f cdv A outer s H vs Q E hr h => ?_)
  · obtain ⟨p, rl, n, g, ds, rs, rfl, _⟩ := h
    rfl
  · obtain ⟨p, rl, n, g, ds, rs, rfl, ha, hrl, htl, kQ, kE⟩ := h
    refine ⟨_, (pss_one (ps_for (passes_of rfl) rfl (pi_list (pv 1)) (pg_name (i := 2) S'.nd rfl (Or.inl rfl))
  (pss_one (ps_if (pt_not (pt_val (pcl c_has_room hr (pa_cons (pv 0) (pa_cons (pv 2) pa_nil))))) (pss_one (ps_raiseC eU rfl (takes_of rfl rfl rfl rfl) (pe_joined (PJ.cons pe_str (PJ.cons (pe_fmt (pv 2)) PJ.nil))))) pss_nil)))), ?_⟩
    refine ⟨_, rfl, rl, rfl, ⟨_, hrl⟩, for_list (xs := rs.map V.int) (fun i σ H' => (∃ v : Option V, σ = [some (.ref p), some (.ref rl), v]) ∧ H' = H ∧ ∀ r ∈ rs.take i, 0 ≤ r ∧ r < n) ⟨⟨_, rfl⟩, rfl, by simp⟩ ?_ ?_ ?_⟩
    · rintro i σ H' _ ⟨_, rfl, _⟩
      exact hrl
    · rintro i x σ H' hx ⟨⟨v, rfl⟩, rfl, hall⟩
      rw [List.getElem?_map] at hx
      obtain ⟨r, hr', rfl⟩ := Option.map_eq_some_iff.mp hx
      have hm := List.mem_of_getElem? hr'
      refine ⟨_, rfl, _, rfl, p, n, g, ds, r, rfl, ha, _, rfl, ?_⟩
      by_cases q : 0 ≤ r ∧ r < n
      · rw [decide_eq_true q]
        refine iteF ⟨⟨_, rfl⟩, rfl, fun y hy => ?_⟩
        rw [List.take_add_one, hr'] at hy
        rcases List.mem_append.mp hy with z | z
        · exact hall y z
        · simp at z
          rw [z]
          exact q
      · rw [decide_eq_false q]
        have h1 : (Str.ofString "there is no room ").length ≤ 100 := by decide +kernel
        have h2 : (Str.empty ++ Str.ofString "there is no room ").length ≤ 100 := by decide +kernel
        exact iteT ⟨_, rfl, Nat.le_trans h2 (by decide), _, rfl, .inr ⟨r, rfl, htl r hm, _, rfl, app_len h2 (toStr_len (htl r hm)) (by decide), kE fun z => q (z r hm)⟩⟩
    · rintro σ H' ⟨_, rfl, hall⟩
      rw [List.length_map, List.take_length] at hall
      exact kQ hall
theorem scND : FnScope ["house", "doors", "door"] ["house", "doors"] (defScope (top 42)) := ⟨rfl, rfl, rfl, by decide +kernel, rfl, by decide +kernel, by decide +kernel⟩
def spND (K : PySem.W.Frag) (CU : Addr) : Sp := fun vs H Q E => ∃ (p rl : Addr) (n : Int) (g : List Nat) (ds : List Door) (rs : List Int), vs = [.ref p, .ref rl] ∧ HouseAt K H p n g ds ∧ SqL K H rl (rs.map V.int) ∧ (∀ r ∈ rs, Tell r) ∧
  ((∀ r ∈ rs, 0 ≤ r ∧ r < ds.length) → Q .non H) ∧ ((¬ ∀ r ∈ rs, 0 ≤ r ∧ r < ds.length) → E (.ref CU) none H)
theorem ok_nd {CU : Addr} (B : Blt mg) (D : Dfn K mg "need_doors" (top 42)) (eU : ExcC K mg "UnknownPart" CU) (c_has_door : Cal P w K mg base CX0 1 "has_door" ["house", "door"] (spHD K)) : Cal P w K mg base (L2.CX P w) 2 "need_doors" ["house", "doors"] (spND K CU) := by
  have S' := scND
  refine D.cal scND (fun vs H Q E h => ?_) (fun _ _ _ _ _ _ us hl => match us, hl with | [_, _], _ => rfl) (fun f cdv A outer s H vs Q E hr h => ?_)
  · obtain ⟨p, rl, n, g, ds, rs, rfl, _⟩ := h
    rfl
  · obtain ⟨p, rl, n, g, ds, rs, rfl, ha, hrl, htl, kQ, kE⟩ := h
    refine ⟨_, (pss_one (ps_for (passes_of rfl) rfl (pi_list (pv 1)) (pg_name (i := 2) S'.nd rfl (Or.inl rfl))
  (pss_one (ps_if (pt_not (pt_val (pcl c_has_door hr (pa_cons (pv 0) (pa_cons (pv 2) pa_nil))))) (pss_one (ps_raiseC eU rfl (takes_of rfl rfl rfl rfl) (pe_joined (PJ.cons pe_str (PJ.cons (pe_fmt (pv 2)) PJ.nil))))) pss_nil)))), ?_⟩
    refine ⟨_, rfl, rl, rfl, ⟨_, hrl⟩, for_list (xs := rs.map V.int) (fun i σ H' => (∃ v : Option V, σ = [some (.ref p), some (.ref rl), v]) ∧ H' = H ∧ ∀ r ∈ rs.take i, 0 ≤ r ∧ r < ds.length) ⟨⟨_, rfl⟩, rfl, by simp⟩ ?_ ?_ ?_⟩
    · rintro i σ H' _ ⟨_, rfl, _⟩
      exact hrl
    · rintro i x σ H' hx ⟨⟨v, rfl⟩, rfl, hall⟩
      rw [List.getElem?_map] at hx
      obtain ⟨r, hr', rfl⟩ := Option.map_eq_some_iff.mp hx
      have hm := List.mem_of_getElem? hr'
      refine ⟨_, rfl, _, rfl, p, n, g, ds, r, rfl, ha, _, rfl, ?_⟩
      by_cases q : 0 ≤ r ∧ r < ds.length
      · rw [decide_eq_true q]
        refine iteF ⟨⟨_, rfl⟩, rfl, fun y hy => ?_⟩
        rw [List.take_add_one, hr'] at hy
        rcases List.mem_append.mp hy with z | z
        · exact hall y z
        · simp at z
          rw [z]
          exact q
      · rw [decide_eq_false q]
        have h2 : (Str.empty ++ Str.ofString "there is no door ").length ≤ 100 := by decide +kernel
        exact iteT ⟨_, rfl, Nat.le_trans h2 (by decide), _, rfl, .inr ⟨r, rfl, htl r hm, _, rfl, app_len h2 (toStr_len (htl r hm)) (by decide), kE fun z => q (z r hm)⟩⟩
    · rintro σ H' ⟨_, rfl, hall⟩
      rw [List.length_map, List.take_length] at hall
      exact kQ hall
end
end Lh
set_option Elab.async false
set_option linter.all false
set_option maxRecDepth 100000
set_option maxHeartbeats 8000000
namespace Lh
open PySem PySem.Spec PyProof.Rows L2 SX
section
variable {P : Program} {w : World} {K : PySem.W.Frag} {mg : Str → Option Value} {base : Heap}
theorem scFar : FnScope ["house", "door", "room", "first", "second", "_"] ["house", "door", "room"] (defScope (top 29)) := ⟨rfl, rfl, rfl, by decide +kernel, rfl, by decide +kernel, by decide +kernel⟩
/-- the other end of a door, the door's first end if the room is none -/
def spFar (K : PySem.W.Frag) : Sp := fun vs H Q _ => ∃ (p : Addr) (n : Int) (g : List Nat) (ds : List Door) (d r a b : Int) (c : List Nat), vs = [.ref p, .int d, .int r] ∧ HouseAt K H p n g ds ∧ 0 ≤ d ∧ ds[d.toNat]? = some (a, b, c) ∧ Q (.int (if r = a then b else a)) H
theorem ok_far (B : Blt mg) (D : Dfn K mg "far_end" (top 29)) : Cal P w K mg base CX0 1 "far_end" ["house", "door", "room"] (spFar K) := by
  have S' := scFar
  refine D.cal0 scFar (fun vs H Q E h => ?_) (fun _ _ _ _ _ _ us hl => match us, hl with | [_, _, _], _ => rfl) (fun f cdv A outer s H vs Q E hr h => ?_)
  · obtain ⟨p, n, g, ds, d, r, a, b, c, rfl, _⟩ := h
    rfl
  · obtain ⟨p, n, g, ds, d, r, a, b, c, rfl, ha, h0, hd, kQ⟩ := h
    obtain ⟨C, dx, t, refs, hc, h1, h2, h3⟩ := ha.ex
    obtain ⟨v, hv, q, rfl, hq⟩ := h3.get hd
    refine ⟨_, (pss_cons (ps_asg (pe_ix ix_tup (pe_fld (pv 0) rfl) (pv 1) (fun _ _ => rfl)) (pg_tup rfl (pgs_cons (pg_name (i := 3) S'.nd rfl (Or.inl rfl)) (pgs_cons (pg_name (i := 4) S'.nd rfl (Or.inl rfl)) (pgs_cons (pg_name (i := 5) S'.nd rfl (Or.inl rfl)) pgs_nil)))))
 (pss_one (ps_ret (pe_ifExp (pt_cmpR op_eq (pv 2) (pv 3) (nomark _)) (pv 4) (pv 3))))), ?_⟩
    refine ⟨_, rfl, p, C, dx, _, _, rfl, h1, hc.cl, hc.nD, rfl, _, rfl, t, refs, _, _, rfl, rfl, SqT.of h2, at_of (j := d.toNat) (by omega) hv, q, _, rfl, SqT.of hq, rfl, _, _, rfl, _, _, rfl, _, _, rfl, rfl, ?_⟩
    refine ⟨_, rfl, _, rfl, rfl, _, rfl, ite2 (fun e => ?_) (fun e => ?_)⟩
    · have e0 := vint e
      rw [if_pos e0] at kQ
      exact ⟨_, rfl, kQ⟩
    · have e0 := vint_no e
      rw [if_neg e0] at kQ
      exact ⟨_, rfl, kQ⟩
end
end Lh
set_option Elab.async false
set_option linter.all false
set_option maxRecDepth 100000
set_option maxHeartbeats 4000000
/-! [.. for .. for ..] over anything that is walked. -/
namespace Lh
open PySem PySem.Spec PyProof.Rows L2
theorem lc2_out {J : It} {n : Nat} {G : Hp → Prop} {Y : Nat → Hp → V → Hp → Prop} (w : Walk J n G Y) {wi1 : TI} {g g1 : TG} {tt tt1 : TT} {te : TE} {vs vs1 : List Nat} {σ : L2.St} {H1 : Hp} {D : Addr} {Qd : Hp → Prop} (Pv : Nat → Hp → Prop) (h0 : Pv 0 (upd H1 D (.lst []))) (hG : ∀ i H, i ≤ n → Pv i H → G H)
    (hs : ∀ i x H H', i < n → Pv i H → Y i H x H' → g x (wipe σ vs) H' fun σ2 H2 => wipe σ2 vs = wipe σ vs ∧ tt σ2 H2 fun b H3 =>
      if b = true then wi1 σ2 H3 fun J1 H4 => ∃ W1 : Nat → Nat → Hp → Prop, (∃ m, W1 0 m H4) ∧ ∀ j k H, W1 j k H →
        (J1.stop j H ∧ Pv (i + 1) H) ∨ (J1.go j H ∧ ∃ Nx1 : Hp → Prop, (∀ H', Nx1 H' → ∃ k', k' < k ∧ W1 (j + 1) k' H') ∧ ∀ x H', J1.yld j H x H' → g1 x (wipe σ2 vs1) H' fun σ3 H5 => wipe σ3 vs1 = wipe σ2 vs1 ∧ tt1 σ3 H5 fun b H6 =>
          if b = true then te σ3 H6 fun y H7 => ∃ acc, H7 D = some (.lst acc) ∧ acc.length < sizeLine ∧ Nx1 (upd H7 D (.lst (acc ++ [y]))) else Nx1 H6)
      else Pv (i + 1) H3) (hd : ∀ H, Pv n H → Qd H) :
    ∃ W : Nat → Nat → Hp → Prop, (∃ m, W 0 m (upd H1 D (.lst []))) ∧ ∀ i m H, W i m H →
  (J.stop i H ∧ Qd H) ∨ (J.go i H ∧ ∃ Nx : Hp → Prop, (∀ H', Nx H' → ∃ m', m' < m ∧ W (i + 1) m' H') ∧ ∀ x H', J.yld i H x H' → g x (wipe σ vs) H' fun σ2 H2 => wipe σ2 vs = wipe σ vs ∧ tt σ2 H2 fun b H3 =>
    if b = true then wi1 σ2 H3 fun J1 H4 => ∃ W1 : Nat → Nat → Hp → Prop, (∃ m, W1 0 m H4) ∧ ∀ j k H, W1 j k H →
      (J1.stop j H ∧ Nx H) ∨ (J1.go j H ∧ ∃ Nx1 : Hp → Prop, (∀ H', Nx1 H' → ∃ k', k' < k ∧ W1 (j + 1) k' H') ∧ ∀ x H', J1.yld j H x H' → g1 x (wipe σ2 vs1) H' fun σ3 H5 => wipe σ3 vs1 = wipe σ2 vs1 ∧ tt1 σ3 H5 fun b H6 =>
        if b = true then te σ3 H6 fun y H7 => ∃ acc, H7 D = some (.lst acc) ∧ acc.length < sizeLine ∧ Nx1 (upd H7 D (.lst (acc ++ [y]))) else Nx1 H6)
    else Nx H3) := by
  refine ⟨fun i m H => m = n - i ∧ i ≤ n ∧ Pv i H, ⟨n, by simp, Nat.zero_le _, h0⟩, ?_⟩
  rintro i m H ⟨rfl, hi, p⟩
  by_cases hlt : i < n
  · exact .inr ⟨w.goes i H hlt (hG i H hi p), Pv (i + 1), fun H' p' => ⟨n - (i + 1), by omega, rfl, hlt, p'⟩, fun x H' y => hs i x H H' hlt p (w.yields i H x H' hlt (hG i H hi p) y)⟩
  · have e : i = n := by omega
    subst e
    exact .inl ⟨w.stops H (hG _ H hi p), hd H p⟩
theorem lc2_in {J : It} {n : Nat} {G : Hp → Prop} {Y : Nat → Hp → V → Hp → Prop} (w : Walk J n G Y) {g1 : TG} {tt1 : TT} {te : TE} {vs1 : List Nat} {σ2 : L2.St} {H4 : Hp} {D : Addr} {Nx : Hp → Prop} (Pv : Nat → Hp → Prop) (h0 : Pv 0 H4) (hG : ∀ i H, i ≤ n → Pv i H → G H)
    (hs : ∀ i x H H', i < n → Pv i H → Y i H x H' → g1 x (wipe σ2 vs1) H' fun σ3 H5 => wipe σ3 vs1 = wipe σ2 vs1 ∧ tt1 σ3 H5 fun b H6 =>
      if b = true then te σ3 H6 fun y H7 => ∃ acc, H7 D = some (.lst acc) ∧ acc.length < sizeLine ∧ Pv (i + 1) (upd H7 D (.lst (acc ++ [y]))) else Pv (i + 1) H6) (hd : ∀ H, Pv n H → Nx H) :
    ∃ W1 : Nat → Nat → Hp → Prop, (∃ m, W1 0 m H4) ∧ ∀ j k H, W1 j k H →
      (J.stop j H ∧ Nx H) ∨ (J.go j H ∧ ∃ Nx1 : Hp → Prop, (∀ H', Nx1 H' → ∃ k', k' < k ∧ W1 (j + 1) k' H') ∧ ∀ x H', J.yld j H x H' → g1 x (wipe σ2 vs1) H' fun σ3 H5 => wipe σ3 vs1 = wipe σ2 vs1 ∧ tt1 σ3 H5 fun b H6 =>
        if b = true then te σ3 H6 fun y H7 => ∃ acc, H7 D = some (.lst acc) ∧ acc.length < sizeLine ∧ Nx1 (upd H7 D (.lst (acc ++ [y]))) else Nx1 H6) := by
  refine ⟨fun i m H => m = n - i ∧ i ≤ n ∧ Pv i H, ⟨n, by simp, Nat.zero_le _, h0⟩, ?_⟩
  rintro i m H ⟨rfl, hi, p⟩
  by_cases hlt : i < n
  · exact .inr ⟨w.goes i H hlt (hG i H hi p), Pv (i + 1), fun H' p' => ⟨n - (i + 1), by omega, rfl, hlt, p'⟩, fun x H' y => hs i x H H' hlt p (w.yields i H x H' hlt (hG i H hi p) y)⟩
  · have e : i = n := by omega
    subst e
    exact .inl ⟨w.stops H (hG _ H hi p), hd H p⟩
end Lh
namespace Lh
open PySem PySem.Spec PyProof.Rows L2
section
variable {X : Cx} {K : PySem.W.Frag}
theorem ix_tupK (h : X.K = K := by rfl) : IxR X (rIxT K) := by subst h; exact ix_tup
theorem ix_listK (h : X.K = K := by rfl) : IxR X (rIxL K) := by subst h; exact ix_list
theorem op_in_seqK (h : X.K = K := by rfl) : OpR X (compareOp .In) (rIn K false) := by subst h; exact op_in_seq
theorem pe_fldK {e : Expr} {ta : TE} {f : Str} {pos : Pos} (ha : PE X e ta) (h : X.K = K := by rfl) (hb : attributeBase e f X.env (eval e X.env) = eval e X.env := by rfl) : PE X (.Attribute e f pos) (tFld K ta f) := by
  subst h
  exact pe_fld ha hb
theorem call_len_seqK (h : X.K = K := by rfl) : CallR X (.builtin "len") (fun xs H Q => ∃ p ys, xs = [V.ref p] ∧ (SqL K H p ys ∨ SqT K H p ys) ∧ Q (.int ys.length) H) := by
  subst h
  exact call_len_seq
theorem pi_tupK {tg l : Expr} {tl : TE} (hl : PE X l tl) (h : X.K = K := by rfl) : PI X tg l (iTup K tl) := by subst h; exact pi_tup hl
theorem pi_listK {tg l : Expr} {tl : TE} (hl : PE X l tl) (h : X.K = K := by rfl) : PI X tg l (iList K tl) := by subst h; exact pi_list hl
end
end Lh
set_option Elab.async false
set_option linter.all false
set_option maxRecDepth 100000
set_option maxHeartbeats 8000000
namespace Lh
open PySem PySem.Spec PyProof.Rows L2 SX
section
variable {P : Program} {w : World} {K : PySem.W.Frag} {mg : Str → Option Value} {base : Heap}
theorem scCy : FnScope ["house", "door"] ["house"] (defScope (top 43)) := ⟨rfl, rfl, rfl, by decide +kernel, rfl, by decide +kernel, by decide +kernel⟩
def cycV (ds : List Door) : List V := ds.map fun d => .str (S d.2.2)
def spCy (K : PySem.W.Frag) : Sp := fun vs H Q _ => ∃ (p : Addr) (n : Int) (g : List Nat) (ds : List Door), vs = [.ref p] ∧ HouseAt K H p n g ds ∧ ds.length ≤ 1000 ∧ ∀ (H' : Hp) (l : Addr), Same H H' → H l = none → H' l = some (.lst (cycV ds)) → Q (.ref l) H'
theorem ok_cy (B : Blt mg) (D : Dfn K mg "cycles_of" (top 43)) : Cal P w K mg base CX0 1 "cycles_of" ["house"] (spCy K) := by
  have S' := scCy
  refine D.cal0 scCy (fun vs H Q E h => ?_) (fun _ _ _ _ _ _ us hl => match us, hl with | [_], _ => rfl) (fun f cdv A outer s H vs Q E hr h => ?_)
  · obtain ⟨p, n, g, ds, rfl, _⟩ := h
    rfl
  · obtain ⟨p, n, g, ds, rfl, ha, hds, kQ⟩ := h
    obtain ⟨C, dx, t, refs, hc, h1, h2, h3⟩ := ha.ex
    have hlen := h3.len
    refine ⟨_, (pss_one (ps_ret (pe_lc (own := [("door", 1)]) (g := gName 1) (by rfl) S'.nd (pi_tup (pe_fld (pv 0) rfl)) (blkOk_by (N := ["house", "door"]) (sc := defScope (top 43)) (by decide +kernel)) (fun _ _ _ _ _ => (pg_name (i := 1) S'.nd rfl (Or.inl rfl))) (fun _ _ _ _ _ => pts_nil) (fun _ _ _ _ _ => (pe_ix (ix_tupK (K := K)) (pv 1) pe_int (fun _ _ => rfl)))))), ?_⟩
    refine ⟨_, rfl, p, C, dx, _, _, rfl, h1, hc.cl, hc.nD, rfl, t, rfl, ⟨_, SqT.of h2⟩, fun D hD => lc_it (walk_tup (xs := refs)) (fun i H' => H' = upd H D (.lst (cycV (ds.take i)))) rfl ?_ ?_ ?_⟩
    · rintro i H' _ rfl
      exact SqT.of (nk h2 hD)
    · rintro i x H' H'' hi rfl ⟨rfl, hx⟩
      obtain ⟨d, hd, r, rfl, hr'⟩ := h3.gtl hx
      refine ⟨rfl, _, rfl, r, _, _, _, rfl, rfl, SqT.of (nk hr' hD), at_of (j := 2) rfl rfl, _, upd_same, ?_, ?_⟩
      · unfold cycV
        rw [List.length_map, List.length_take]
        exact small1000 (by omega)
      · rw [upd_upd, List.take_add_one, hd]
        unfold cycV
        rw [List.map_append]
        rfl
    · rintro H' rfl
      rw [hlen, List.take_length]
      exact kQ _ D (same_new hD) hD upd_same
theorem scDA : FnScope ["house", "room", "door", "first", "second", "_"] ["house", "room"] (defScope (top 44)) := ⟨rfl, rfl, rfl, by decide +kernel, rfl, by decide +kernel, by decide +kernel⟩
/-- the doors at a room, ascending -/
def daGo (r : Int) : Nat → List Door → List Int
  | _, [] => []
  | k, d :: l => if d.1 = r ∨ d.2.1 = r then (k : Int) :: daGo r (k + 1) l else daGo r (k + 1) l
def doorsAt (ds : List Door) (r : Int) : List Int := daGo r 0 ds
theorem daGo_app (r : Int) (d : Door) : ∀ (k : Nat) (l : List Door), daGo r k (l ++ [d]) = daGo r k l ++ (if d.1 = r ∨ d.2.1 = r then [((k + l.length : Nat) : Int)] else [])
  | k, [] => by
    show (if d.1 = r ∨ d.2.1 = r then (k : Int) :: daGo r (k + 1) [] else daGo r (k + 1) []) = _
    split <;> simp [daGo]
  | k, e :: l => by
    have ih := daGo_app r d (k + 1) l
    show (if e.1 = r ∨ e.2.1 = r then (k : Int) :: daGo r (k + 1) (l ++ [d]) else daGo r (k + 1) (l ++ [d])) = (if e.1 = r ∨ e.2.1 = r then (k : Int) :: daGo r (k + 1) l else daGo r (k + 1) l) ++ _
    have e2 : k + 1 + l.length = k + (e :: l).length := by simp; omega
    rw [ih, e2]
    split <;> rfl
theorem daGo_len (r : Int) : ∀ (k : Nat) (l : List Door), (daGo r k l).length ≤ l.length
  | _, [] => Nat.le_refl _
  | k, e :: l => by
    have ih := daGo_len r (k + 1) l
    show (if e.1 = r ∨ e.2.1 = r then (k : Int) :: daGo r (k + 1) l else daGo r (k + 1) l).length ≤ _
    split <;> simp <;> omega
theorem inV2 (r a b : Int) : inV (.int r) [.int a, .int b] = decide (a = r ∨ b = r) := by
  have h : ∀ x : Int, eqV (.int x) (.int r) = decide (x = r) := fun x => by
    by_cases e : x = r
    · subst e
      simp [eqV]
    · simp [eqV, e]
  show (eqV (.int a) (.int r) || (eqV (.int b) (.int r) || false)) = _
  rw [h, h, Bool.or_false]
  by_cases e : a = r <;> by_cases e2 : b = r <;> simp [e, e2]
def spDA (K : PySem.W.Frag) (CU : Addr) : Sp := fun vs H Q E => ∃ (p : Addr) (n : Int) (g : List Nat) (ds : List Door) (r : Int), vs = [.ref p, .int r] ∧ HouseAt K H p n g ds ∧ Tell r ∧ ds.length ≤ 1000 ∧
  ((0 ≤ r ∧ r < n) → ∀ (H' : Hp) (l : Addr), Same H H' → H l = none → H' l = some (.lst ((doorsAt ds r).map V.int)) → Q (.ref l) H') ∧ ((¬ (0 ≤ r ∧ r < n)) → ∀ H', Same H H' → E (.ref CU) none H')
theorem ok_da {CU : Addr} (B : Blt mg) (D : Dfn K mg "doors_at" (top 44)) (c_need_rooms : Cal P w K mg base (L2.CX P w) 2 "need_rooms" ["house", "rooms"] (spNR K CU)) : Cal P w K mg base (L2.CX P w) 3 "doors_at" ["house", "room"] (spDA K CU) := by
  have S' := scDA
  refine D.cal scDA (fun vs H Q E h => ?_) (fun _ _ _ _ _ _ us hl => match us, hl with | [_, _], _ => rfl) (fun f cdv A outer s H vs Q E hr h => ?_)
  · obtain ⟨p, n, g, ds, r, rfl, _⟩ := h
    rfl
  · obtain ⟨p, n, g, ds, r, rfl, ha, htl, hds, kQ, kE⟩ := h
    obtain ⟨C, dx, t, refs, hc, h1, h2, h3⟩ := ha.ex
    have hlen := h3.len
    refine ⟨_, (pss_cons (ps_expr (pclX c_need_rooms hr (takes_of rfl rfl rfl rfl) (pa_cons (pv 0) (pa_cons (pe_lst (pa_cons (pv 1) pa_nil)) pa_nil))))
 (pss_one (ps_ret (pe_lc (own := [("door", 2), ("first", 3), ("second", 4), ("_", 5)]) (g := gTup K 2 (gCons (gName 2) (gCons (gTup K 3 (gCons (gName 3) (gCons (gName 4) (gCons (gName 5) gNil)))) gNil))) (by rfl) S'.nd (pi_enumT (by rfl) B.enumerate (pa_cons (pe_fld (pv 0) rfl) pa_nil)) (blkOk_by (N := ["house", "room", "door", "first", "second", "_"]) (sc := defScope (top 44)) (by decide +kernel)) (fun _ _ _ _ _ => (pg_tup rfl (pgs_cons (pg_name (i := 2) S'.nd rfl (Or.inl rfl)) (pgs_cons (pg_tup rfl (pgs_cons (pg_name (i := 3) S'.nd rfl (Or.inl rfl)) (pgs_cons (pg_name (i := 4) S'.nd rfl (Or.inl rfl)) (pgs_cons (pg_name (i := 5) S'.nd rfl (Or.inl rfl)) pgs_nil)))) pgs_nil)))) (fun _ _ _ _ _ => (pts_one (pt_cmpR (op_in_seqK (K := K)) (pv 1) (pe_tup (pa_cons (pv 3) (pa_cons (pv 4) pa_nil))) (by rfl)))) (fun _ _ _ _ _ => (pv 2)))))), ?_⟩
    refine ⟨_, rfl, _, rfl, (by show 1 ≤ sizeLine; decide), fun l1 hl1 => ⟨p, l1, n, g, ds, [r], rfl, ha.same (same_new hl1), SqL.of upd_same, by simpa using htl, fun hin => ?_, fun hout => kE (by simpa using hout) _ (same_new hl1)⟩⟩
    have hin' : 0 ≤ r ∧ r < n := hin r (by simp)
    have kQ := kQ hin'
    have s1 : Same H (upd H l1 (.lst [.int r])) := same_new hl1
    generalize upd H l1 (.lst [.int r]) = H1 at s1 ⊢
    refine ⟨_, rfl, p, C, dx, _, _, rfl, s1 _ _ h1, hc.cl, hc.nD, rfl, t, refs, rfl, SqT.of (s1 _ _ h2), fun D hD => lc_it (walk_enumT (xs := refs)) (fun i H' => Same H1 H' ∧ H' D = some (.lst ((doorsAt (ds.take i) r).map V.int))) ⟨same_new hD, upd_same⟩ ?_ ?_ ?_⟩
    · rintro i H' _ ⟨sm, _⟩
      exact SqT.of (sm _ _ (s1 _ _ h2))
    · rintro i x H2 H3 hi ⟨sm, hD'⟩ ⟨T, x, y, rfl, hT, rfl, ex, ey⟩
      cases ex
      obtain ⟨⟨a, b, c⟩, hd, r0, rfl, hr'⟩ := h3.gtl ey
      have sT := same_upd (o := .tup [.int (i : Int), .ref r0]) sm (sm.free hT)
      have hi' : i < ds.length := (List.getElem?_eq_some_iff.mp hd).1
      have hnext := daGo_app r (a, b, c) 0 (ds.take i)
      have etk : ds.take (i + 1) = ds.take i ++ [(a, b, c)] := by rw [List.take_add_one, hd]; rfl
      have elen : (ds.take i).length = i := by rw [List.length_take]; omega
      rw [elen, Nat.zero_add, ← etk] at hnext
      have hlen' := daGo_len r 0 (ds.take i)
      refine ⟨T, _, rfl, SqT.of upd_same, rfl, _, _, rfl, _, _, rfl, r0, _, rfl, SqT.of (sT _ _ (s1 _ _ hr')), rfl, _, _, rfl, _, _, rfl, _, _, rfl, rfl, rfl, rfl, ?_⟩
      refine ⟨_, rfl, _, rfl, _, rfl, (by show 2 ≤ sizeLine; decide), fun tp htp => ⟨tp, _, rfl, .inr (SqT.of upd_same), rfl, rfl, _, rfl, ?_⟩⟩
      have hDT := nk (o := .tup [.int a, .int b]) (nk (o := .tup [.int (i : Int), .ref r0]) hD' hT) htp
      have sT2 := same_upd (o := .tup [.int a, .int b]) sT (sT.free htp)
      rw [if_neg Bool.false_ne_true, inV2]
      by_cases q : a = r ∨ b = r
      · rw [decide_eq_true q]
        refine iteT ⟨_, rfl, _, hDT, ?_, same_upd sT2 hD, ?_⟩
        · rw [List.length_map]
          exact small1000 (by unfold doorsAt; omega)
        · rw [upd_same]
          unfold doorsAt
          rw [hnext, if_pos q, List.map_append]
          rfl
      · rw [decide_eq_false q]
        refine iteF ⟨sT2, ?_⟩
        unfold doorsAt at hDT ⊢
        rw [hnext, if_neg q, List.append_nil]
        exact hDT
    · rintro H' ⟨sm, hD'⟩
      rw [hlen, List.take_length] at hD'
      exact kQ _ D (s1.trans sm) (s1.free hD) hD'
end
end Lh
set_option Elab.async false
set_option linter.all false
set_option maxRecDepth 100000
set_option maxHeartbeats 8000000
namespace Lh
open PySem PySem.Spec PyProof.Rows L2 SX
section
variable {P : Program} {w : World} {K : PySem.W.Frag} {mg : Str → Option Value} {base : Heap}
theorem scOE : FnScope ["house", "door", "room", "first", "second", "_"] ["house", "door", "room"] (defScope (top 45)) := ⟨rfl, rfl, rfl, by decide +kernel, rfl, by decide +kernel, by decide +kernel⟩
def spOE (K : PySem.W.Frag) (CU CN : Addr) : Sp := fun vs H Q E => ∃ (p : Addr) (n : Int) (g : List Nat) (ds : List Door) (d r : Int), vs = [.ref p, .int d, .int r] ∧ HouseAt K H p n g ds ∧ Tell d ∧ Tell r ∧
  ((¬ ((0 ≤ d ∧ d < ds.length) ∧ (0 ≤ r ∧ r < n))) → ∀ H', Same H H' → E (.ref CU) none H') ∧
  (0 ≤ d → (0 ≤ r ∧ r < n) → ∀ a b c, ds[d.toNat]? = some (a, b, c) → ((r ≠ a ∧ r ≠ b) → ∀ H', Same H H' → E (.ref CN) none H') ∧ ((r = a ∨ r = b) → ∀ H', Same H H' → Q (.int (if r = a then b else a)) H'))
theorem ok_oe {CU CN : Addr} (B : Blt mg) (D : Dfn K mg "other_end" (top 45)) (eN : ExcC K mg "NotThere" CN) (c_need_rooms : Cal P w K mg base (L2.CX P w) 2 "need_rooms" ["house", "rooms"] (spNR K CU)) (c_need_doors : Cal P w K mg base (L2.CX P w) 2 "need_doors" ["house", "doors"] (spND K CU))
    (c_far_end : Cal P w K mg base CX0 1 "far_end" ["house", "door", "room"] (spFar K)) : Cal P w K mg base (L2.CX P w) 3 "other_end" ["house", "door", "room"] (spOE K CU CN) := by
  have S' := scOE
  refine D.cal scOE (fun vs H Q E h => ?_) (fun _ _ _ _ _ _ us hl => match us, hl with | [_, _, _], _ => rfl) (fun f cdv A outer s H vs Q E hr h => ?_)
  · obtain ⟨p, n, g, ds, d, r, rfl, _⟩ := h
    rfl
  · obtain ⟨p, n, g, ds, d, r, rfl, ha, td, tr, kU, kQ⟩ := h
    obtain ⟨C, dx, t, refs, hc, h1, h2, h3⟩ := ha.ex
    have hlen := h3.len
    refine ⟨_, (pss_cons (ps_expr (pclX c_need_doors hr (takes_of rfl rfl rfl rfl) (pa_cons (pv 0) (pa_cons (pe_lst (pa_cons (pv 1) pa_nil)) pa_nil))))
 (pss_cons (ps_expr (pclX c_need_rooms hr (takes_of rfl rfl rfl rfl) (pa_cons (pv 0) (pa_cons (pe_lst (pa_cons (pv 2) pa_nil)) pa_nil))))
 (pss_cons (ps_asg (pe_ix ix_tup (pe_fld (pv 0) rfl) (pv 1) (fun _ _ => rfl)) (pg_tup rfl (pgs_cons (pg_name (i := 3) S'.nd rfl (Or.inl rfl)) (pgs_cons (pg_name (i := 4) S'.nd rfl (Or.inl rfl)) (pgs_cons (pg_name (i := 5) S'.nd rfl (Or.inl rfl)) pgs_nil)))))
 (pss_cons (ps_if (pt_cmpR op_notIn_seq (pv 2) (pe_tup (pa_cons (pv 3) (pa_cons (pv 4) pa_nil))) (by rfl)) (pss_one (ps_raiseC eN rfl (takes_of rfl rfl rfl rfl) (pe_joined (PJ.cons pe_str (PJ.cons (pe_fmt (pv 2)) (PJ.cons pe_str (PJ.cons (pe_fmt (pv 1)) PJ.nil))))))) pss_nil)
 (pss_one (ps_ret (pcl c_far_end hr (pa_cons (pv 0) (pa_cons (pv 1) (pa_cons (pv 2) pa_nil)))))))))), ?_⟩
    refine ⟨_, rfl, _, rfl, (by show 1 ≤ sizeLine; decide), fun l1 hl1 => ⟨p, l1, n, g, ds, [d], rfl, ha.same (same_new hl1), SqL.of upd_same, by simpa using td, fun hd => ?_, fun hd => kU (fun z => hd (by simpa using z.1)) _ (same_new hl1)⟩⟩
    have hd' : 0 ≤ d ∧ d < ds.length := hd d (by simp)
    have s1 : Same H (upd H l1 (.lst [.int d])) := same_new hl1
    generalize upd H l1 (.lst [.int d]) = H1 at s1 ⊢
    refine ⟨_, rfl, _, rfl, (by show 1 ≤ sizeLine; decide), fun l2 hl2 => ⟨p, l2, n, g, ds, [r], rfl, ha.same (same_upd s1 (s1.free hl2)), SqL.of upd_same, by simpa using tr, fun hrr => ?_, fun hrr => kU (fun z => hrr (by simpa using z.2)) _ (same_upd s1 (s1.free hl2))⟩⟩
    have hr' : 0 ≤ r ∧ r < n := hrr r (by simp)
    have s2 := same_upd (o := .lst [.int r]) s1 (s1.free hl2)
    generalize upd H1 l2 (.lst [.int r]) = H2 at s2 ⊢
    obtain ⟨⟨a, b, c⟩, ed⟩ : ∃ x, ds[d.toNat]? = some x := ⟨_, List.getElem?_eq_getElem (by omega)⟩
    obtain ⟨kN, kO⟩ := kQ hd'.1 hr' a b c ed
    obtain ⟨v, hv, q, rfl, hq⟩ := h3.get ed
    refine ⟨_, rfl, p, C, dx, _, _, rfl, s2 _ _ h1, hc.cl, hc.nD, rfl, _, rfl, t, refs, _, _, rfl, rfl, SqT.of (s2 _ _ h2), at_of (j := d.toNat) (by omega) hv, q, _, rfl, SqT.of (s2 _ _ hq), rfl, _, _, rfl, _, _, rfl, _, _, rfl, rfl, ?_⟩
    refine ⟨_, rfl, _, rfl, _, rfl, (by show 2 ≤ sizeLine; decide), fun tp htp => ⟨tp, _, rfl, .inr (SqT.of upd_same), rfl, rfl, _, rfl, ?_⟩⟩
    have s3 := same_upd (o := .tup [.int a, .int b]) s2 (s2.free htp)
    rw [if_pos rfl, inV2]
    by_cases q : a = r ∨ b = r
    · rw [decide_eq_true q]
      refine iteF ⟨_, rfl, _, rfl, _, rfl, p, n, g, ds, d, r, a, b, c, rfl, ha.same s3, hd'.1, ed, kO (q.elim (fun z => .inl z.symm) fun z => .inr z.symm) _ s3⟩
    · rw [decide_eq_false q]
      have q2 : r ≠ a ∧ r ≠ b := ⟨fun z => q (.inl z.symm), fun z => q (.inr z.symm)⟩
      have e1 : (Str.empty ++ Str.ofString "room ").length ≤ 10 := by decide +kernel
      have e2 : (Str.ofString " is no end of door ").length ≤ 100 := by decide +kernel
      have b2 : (Str.empty ++ Str.ofString "room " ++ toString r).length ≤ 1931 := by
        rw [Str.length_append]
        have := toStr_len tr
        omega
      have b3 : (Str.empty ++ Str.ofString "room " ++ toString r ++ Str.ofString " is no end of door ").length ≤ 2031 := by
        rw [Str.length_append]
        omega
      exact iteT ⟨_, rfl, Nat.le_trans e1 (by decide), _, rfl, .inr ⟨r, rfl, tr, _, rfl, Nat.le_trans b2 (by decide), _, rfl, Nat.le_trans b3 (by decide), _, rfl, .inr ⟨d, rfl, td, _, rfl, app_len b3 (toStr_len td) (by decide), kN q2 _ s3⟩⟩⟩
/-! ### the kinds -/
theorem scLc : FnScope ["house", "cycle"] ["house"] (defScope (top 46)) := ⟨rfl, rfl, rfl, by decide +kernel, rfl, by decide +kernel, by decide +kernel⟩
def CycShort (ds : List Door) : Prop := ds.length ≤ 1000 ∧ ∀ d ∈ ds, d.2.2.length ≤ 1000
def spLc (K : PySem.W.Frag) : Sp := fun vs H Q _ => ∃ (p : Addr) (n : Int) (g : List Nat) (ds : List Door), vs = [.ref p] ∧ HouseAt K H p n g ds ∧ CycShort ds ∧
  ∀ (m : Int) (H' : Hp), Same H H' → ((ds = [] ∧ m = 0) ∨ ((∃ d ∈ ds, m = d.2.2.length) ∧ ∀ d ∈ ds, (d.2.2.length : Int) ≤ m)) → Q (.int m) H'
theorem ok_lc (B : Blt mg) (D : Dfn K mg "longest_cycle" (top 46)) (c_cycles_of : Cal P w K mg base CX0 1 "cycles_of" ["house"] (spCy K)) : Cal P w K mg base CX0 2 "longest_cycle" ["house"] (spLc K) := by
  have S' := scLc
  refine D.cal0 scLc (fun vs H Q E h => ?_) (fun _ _ _ _ _ _ us hl => match us, hl with | [_], _ => rfl) (fun f cdv A outer s H vs Q E hr h => ?_)
  · obtain ⟨p, n, g, ds, rfl, _⟩ := h
    rfl
  · obtain ⟨p, n, g, ds, rfl, ha, cs, kQ⟩ := h
    refine ⟨_, (pss_one (ps_ret (pe_maxD (by rfl) (hu_of hr) (by rfl) B.max (pa_cons (pe_lc (own := [("cycle", 1)]) (g := gName 1) (by rfl) S'.nd (pi_list (pcl c_cycles_of hr (pa_cons (pv 0) pa_nil))) (blkOk_by (N := ["house", "cycle"]) (sc := defScope (top 46)) (by decide +kernel)) (fun _ _ _ _ _ => (pg_name (i := 1) S'.nd rfl (Or.inl rfl))) (fun _ _ _ _ _ => pts_nil) (fun _ _ _ _ _ => (pe_callB call_len_str (by rfl) B.len PySem.boot_len (pa_cons (pv 1) pa_nil)))) pa_nil) (pk_cons pe_int pk_nil)))), ?_⟩
    refine ⟨_, rfl, p, n, g, ds, rfl, ha, cs.1, fun H1 l s1 hl hl1 => ⟨l, rfl, ⟨_, SqL.of hl1⟩, fun D hD => lc_it (walk_list (xs := cycV ds)) (fun i H' => H' = upd H1 D (.lst (((ds.take i).map fun d => (d.2.2.length : Int)).map V.int))) rfl ?_ ?_ ?_⟩⟩
    · rintro i H' _ rfl
      exact SqL.of (nk hl1 hD)
    · rintro i x H' H'' hi rfl ⟨rfl, hx⟩
      unfold cycV at hx
      rw [List.getElem?_map] at hx
      obtain ⟨d, hd, rfl⟩ := Option.map_eq_some_iff.mp hx
      refine ⟨rfl, _, rfl, _, rfl, S_le (cs.2 d (List.mem_of_getElem? hd)), _, upd_same, ?_, ?_⟩
      · rw [List.length_map, List.length_map, List.length_take]
        have := cs.1
        exact small1000 (by omega)
      · rw [upd_upd, List.take_add_one, hd, S_len]
        rw [List.map_append, List.map_append]
        rfl
    · rintro H' rfl
      have e : (cycV ds).length = ds.length := by unfold cycV; rw [List.length_map]
      rw [e, List.take_length]
      refine ⟨D, ds.map fun d => (d.2.2.length : Int), .int 0, rfl, rfl, SqL.of upd_same, fun z => ?_, fun m hm hmax => ?_⟩
      · have : ds = [] := by simpa using z
        exact kQ 0 _ (s1.trans (same_new hD)) (.inl ⟨this, rfl⟩)
      · obtain ⟨d, hd, rfl⟩ := List.mem_map.mp hm
        exact kQ _ _ (s1.trans (same_new hD)) (.inr ⟨⟨d, hd, rfl⟩, fun d' hd' => hmax _ (List.mem_map.mpr ⟨d', hd', rfl⟩)⟩)
theorem scTre : FnScope ["house"] ["house"] (defScope (top 50)) := ⟨rfl, rfl, rfl, by decide +kernel, rfl, by decide +kernel, by decide +kernel⟩
def spTre (K : PySem.W.Frag) : Sp := fun vs H Q _ => ∃ (p : Addr) (n : Int) (g : List Nat) (ds : List Door), vs = [.ref p] ∧ HouseAt K H p n g ds ∧ Q (.bl (decide ((ds.length : Int) = n - 1))) H
theorem ok_tre (B : Blt mg) (D : Dfn K mg "is_tree" (top 50)) : Cal P w K mg base CX0 1 "is_tree" ["house"] (spTre K) := by
  have S' := scTre
  refine D.cal0 scTre (fun vs H Q E h => ?_) (fun _ _ _ _ _ _ us hl => match us, hl with | [_], _ => rfl) (fun f cdv A outer s H vs Q E hr h => ?_)
  · obtain ⟨p, n, g, ds, rfl, _⟩ := h
    rfl
  · obtain ⟨p, n, g, ds, rfl, ha, kQ⟩ := h
    obtain ⟨C, dx, t, refs, hc, h1, h2, h3⟩ := ha.ex
    refine ⟨_, (pss_one (ps_ret (pe_cmpR op_eq (pe_callB call_len_seq (by rfl) B.len PySem.boot_len (pa_cons (pe_fld (pv 0) rfl) pa_nil)) (pe_op op_sub (pe_fld (pv 0) rfl) pe_int) (nomark _)))), ?_⟩
    refine ⟨_, rfl, p, C, dx, _, _, rfl, h1, hc.cl, hc.nD, rfl, t, refs, rfl, .inr (SqT.of h2), _, rfl, p, C, dx, _, _, rfl, h1, hc.cl, hc.nR, rfl, _, _, rfl, rfl, rfl, ?_⟩
    have e : decide (V.int (refs.length : Int) = V.int (n - 1)) = decide ((ds.length : Int) = n - 1) := by rw [h3.len]; simp
    rw [e]
    exact kQ
theorem scEv : FnScope ["house", "cycle"] ["house"] (defScope (top 48)) := ⟨rfl, rfl, rfl, by decide +kernel, rfl, by decide +kernel, by decide +kernel⟩
/-- one word for the tests of all cycles -/
def spAllC (K : PySem.W.Frag) (f : List Nat → Bool) : Sp := fun vs H Q _ => ∃ (p : Addr) (n : Int) (g : List Nat) (ds : List Door), vs = [.ref p] ∧ HouseAt K H p n g ds ∧ CycShort ds ∧ (∀ d ∈ ds, d.2.2 ≠ []) ∧ ∀ H' : Hp, Same H H' → Q (.bl (ds.all fun d => f d.2.2)) H'
def evenC (c : List Nat) : Bool := decide (((c.length : Int)) % 2 = 0)
def strictC (c : List Nat) : Bool := decide ((c.length : Int) = 2)
theorem ok_ev (B : Blt mg) (D : Dfn K mg "is_even" (top 48)) (c_cycles_of : Cal P w K mg base CX0 1 "cycles_of" ["house"] (spCy K)) : Cal P w K mg base CX0 2 "is_even" ["house"] (spAllC K evenC) := by
  have S' := scEv
  refine D.cal0 scEv (fun vs H Q E h => ?_) (fun _ _ _ _ _ _ us hl => match us, hl with | [_], _ => rfl) (fun f cdv A outer s H vs Q E hr h => ?_)
  · obtain ⟨p, n, g, ds, rfl, _⟩ := h
    rfl
  · obtain ⟨p, n, g, ds, rfl, ha, cs, hne, kQ⟩ := h
    refine ⟨_, (pss_one (ps_ret (pe_callB (cr_all rfl) (by rfl) B.all (by decide +kernel) (pa_cons (pe_lc (own := [("cycle", 1)]) (g := gName 1) (by rfl) S'.nd (pi_list (pcl c_cycles_of hr (pa_cons (pv 0) pa_nil))) (blkOk_by (N := ["house", "cycle"]) (sc := defScope (top 48)) (by decide +kernel)) (fun _ _ _ _ _ => (pg_name (i := 1) S'.nd rfl (Or.inl rfl))) (fun _ _ _ _ _ => pts_nil) (fun _ _ _ _ _ => (pe_cmpR op_eq (pe_op op_mod (pe_callB call_len_str (by rfl) B.len PySem.boot_len (pa_cons (pv 1) pa_nil)) pe_int) pe_int (nomark _)))) pa_nil)))), ?_⟩
    refine ⟨_, rfl, p, n, g, ds, rfl, ha, cs.1, fun H1 l s1 hl hl1 => ⟨l, rfl, ⟨_, SqL.of hl1⟩, fun D hD => lc_it (walk_list (xs := cycV ds)) (fun i H' => H' = upd H1 D (.lst (((ds.take i).map fun d => evenC d.2.2).map V.bl))) rfl ?_ ?_ ?_⟩⟩
    · rintro i H' _ rfl
      exact SqL.of (nk hl1 hD)
    · rintro i x H' H'' hi rfl ⟨rfl, hx⟩
      unfold cycV at hx
      rw [List.getElem?_map] at hx
      obtain ⟨d, hd, rfl⟩ := Option.map_eq_some_iff.mp hx
      refine ⟨rfl, _, rfl, _, rfl, S_le (cs.2 d (List.mem_of_getElem? hd)), _, _, rfl, rfl, (by show (0 : Int) < 2; decide), rfl, _, upd_same, ?_, ?_⟩
      · rw [List.length_map, List.length_map, List.length_take]
        have := cs.1
        exact small1000 (by omega)
      · rw [upd_upd, List.take_add_one, hd, S_len]
        rw [List.map_append, List.map_append]
        have e : decide (V.int ((d.2.2.length : Int) % 2) = V.int 0) = evenC d.2.2 := by unfold evenC; simp
        rw [e]
        rfl
    · rintro H' rfl
      have e : (cycV ds).length = ds.length := by unfold cycV; rw [List.length_map]
      rw [e, List.take_length]
      refine ⟨D, _, rfl, SqL.of upd_same, ?_⟩
      rw [List.all_map]
      exact kQ _ (s1.trans (same_new hD))
theorem scStr : FnScope ["house", "cycle"] ["house"] (defScope (top 49)) := ⟨rfl, rfl, rfl, by decide +kernel, rfl, by decide +kernel, by decide +kernel⟩
theorem ok_str (B : Blt mg) (D : Dfn K mg "is_strict" (top 49)) (c_cycles_of : Cal P w K mg base CX0 1 "cycles_of" ["house"] (spCy K)) : Cal P w K mg base CX0 2 "is_strict" ["house"] (spAllC K strictC) := by
  have S' := scStr
  refine D.cal0 scStr (fun vs H Q E h => ?_) (fun _ _ _ _ _ _ us hl => match us, hl with | [_], _ => rfl) (fun f cdv A outer s H vs Q E hr h => ?_)
  · obtain ⟨p, n, g, ds, rfl, _⟩ := h
    rfl
  · obtain ⟨p, n, g, ds, rfl, ha, cs, hne, kQ⟩ := h
    refine ⟨_, (pss_one (ps_ret (pe_callB (cr_all rfl) (by rfl) B.all (by decide +kernel) (pa_cons (pe_lc (own := [("cycle", 1)]) (g := gName 1) (by rfl) S'.nd (pi_list (pcl c_cycles_of hr (pa_cons (pv 0) pa_nil))) (blkOk_by (N := ["house", "cycle"]) (sc := defScope (top 49)) (by decide +kernel)) (fun _ _ _ _ _ => (pg_name (i := 1) S'.nd rfl (Or.inl rfl))) (fun _ _ _ _ _ => pts_nil) (fun _ _ _ _ _ => (pe_cmpR op_eq (pe_callB call_len_str (by rfl) B.len PySem.boot_len (pa_cons (pv 1) pa_nil)) pe_int (nomark _)))) pa_nil)))), ?_⟩
    refine ⟨_, rfl, p, n, g, ds, rfl, ha, cs.1, fun H1 l s1 hl hl1 => ⟨l, rfl, ⟨_, SqL.of hl1⟩, fun D hD => lc_it (walk_list (xs := cycV ds)) (fun i H' => H' = upd H1 D (.lst (((ds.take i).map fun d => strictC d.2.2).map V.bl))) rfl ?_ ?_ ?_⟩⟩
    · rintro i H' _ rfl
      exact SqL.of (nk hl1 hD)
    · rintro i x H' H'' hi rfl ⟨rfl, hx⟩
      unfold cycV at hx
      rw [List.getElem?_map] at hx
      obtain ⟨d, hd, rfl⟩ := Option.map_eq_some_iff.mp hx
      refine ⟨rfl, _, rfl, _, rfl, S_le (cs.2 d (List.mem_of_getElem? hd)), rfl, _, upd_same, ?_, ?_⟩
      · rw [List.length_map, List.length_map, List.length_take]
        have := cs.1
        exact small1000 (by omega)
      · rw [upd_upd, List.take_add_one, hd, S_len]
        rw [List.map_append, List.map_append]
        have e : decide (V.int (d.2.2.length : Int) = V.int 2) = strictC d.2.2 := by unfold strictC; simp
        rw [e]
        rfl
    · rintro H' rfl
      have e : (cycV ds).length = ds.length := by unfold cycV; rw [List.length_map]
      rw [e, List.take_length]
      refine ⟨D, _, rfl, SqL.of upd_same, ?_⟩
      rw [List.all_map]
      exact kQ _ (s1.trans (same_new hD))
end
end Lh
set_option Elab.async false
set_option linter.all false
set_option maxRecDepth 100000
set_option maxHeartbeats 8000000
namespace Lh
open PySem PySem.Spec PyProof.Rows L2 SX
section
variable {P : Program} {w : World} {K : PySem.W.Frag} {mg : Str → Option Value} {base : Heap}
theorem scOd : FnScope ["house", "cycle", "trade"] ["house"] (defScope (top 47)) := ⟨rfl, rfl, rfl, by decide +kernel, rfl, by decide +kernel, by decide +kernel⟩
def oddC (g c : List Nat) : Bool := g.all fun x => decide (((c.count x : Nat) : Int) % 2 = 1)
def spOd (K : PySem.W.Frag) : Sp := fun vs H Q _ => ∃ (p : Addr) (n : Int) (g : List Nat) (ds : List Door), vs = [.ref p] ∧ HouseAt K H p n g ds ∧ CycShort ds ∧ g.length ≤ 100 ∧ ∀ H' : Hp, Same H H' → Q (.bl (ds.all fun d => oddC g d.2.2)) H'
theorem ok_od (B : Blt mg) (D : Dfn K mg "is_odd" (top 47)) (c_cycles_of : Cal P w K mg base CX0 1 "cycles_of" ["house"] (spCy K)) : Cal P w K mg base CX0 2 "is_odd" ["house"] (spOd K) := by
  have S' := scOd
  refine D.cal0 scOd (fun vs H Q E h => ?_) (fun _ _ _ _ _ _ us hl => match us, hl with | [_], _ => rfl) (fun f cdv A outer s H vs Q E hr h => ?_)
  · obtain ⟨p, n, g, ds, rfl, _⟩ := h
    rfl
  · obtain ⟨p, n, g, ds, rfl, ha, cs, hg, kQ⟩ := h
    obtain ⟨C, dx, t, refs, hc, h1, h2, h3⟩ := ha.ex
    refine ⟨_, (pss_one (ps_ret (pe_callB (cr_all rfl) (by rfl) B.all (by decide +kernel) (pa_cons (pe_lc2 (own := [("cycle", 1), ("trade", 2)]) (vs1 := [2]) (g := gName 1) (g1 := gName 2) (by rfl) S'.nd (pi_list (pcl c_cycles_of hr (pa_cons (pv 0) pa_nil))) (blkOk_by (N := ["house", "cycle", "trade"]) (sc := defScope (top 47)) (by decide +kernel)) (by decide) (fun _ _ _ _ _ => (pg_name (i := 1) S'.nd rfl (Or.inl rfl))) (fun _ _ _ _ _ => pts_nil) (fun _ _ _ _ _ => (pi_str (pe_fldK (K := K) (pv 0) rfl))) (fun _ _ _ _ _ => (pg_name (i := 2) S'.nd rfl (Or.inl rfl))) (fun _ _ _ _ _ => pts_nil) (fun _ _ _ _ _ => (pe_cmpR op_eq (pe_op op_mod (pe_m1 PySem.F.slot_str_count PySem.F.type_str_count mt_count (pv 1) (pv 2)) pe_int) pe_int (nomark _)))) pa_nil)))), ?_⟩
    refine ⟨_, rfl, p, n, g, ds, rfl, ha, cs.1, fun H1 l s1 hl hl1 => ⟨l, rfl, ⟨_, SqL.of hl1⟩, fun D hD => ?_⟩⟩
    have mm : ∀ i, ((ds.take i).flatMap fun d => g.map fun x => decide (((d.2.2.count x : Nat) : Int) % 2 = 1)).length ≤ 100 * i := fun i => by
      rw [List.length_flatMap]
      have : ∀ m : List Door, (m.map fun d => (g.map fun x => decide (((d.2.2.count x : Nat) : Int) % 2 = 1)).length).sum = g.length * m.length := fun m => by
        induction m with
        | nil => rfl
        | cons a m ih => rw [List.map_cons, List.sum_cons, ih, List.length_map, List.length_cons, Nat.mul_succ, Nat.add_comm]
      rw [this, List.length_take]
      exact Nat.mul_le_mul hg (Nat.min_le_left _ _)
    refine lc2_out (walk_list (xs := cycV ds)) (fun i H' => H' = upd H1 D (.lst (((ds.take i).flatMap fun d => g.map fun x => decide (((d.2.2.count x : Nat) : Int) % 2 = 1)).map V.bl))) rfl ?_ ?_ ?_
    · rintro i H' _ rfl
      exact SqL.of (nk hl1 hD)
    · rintro i x H' H'' hi rfl ⟨rfl, hx⟩
      unfold cycV at hx hi
      rw [List.getElem?_map] at hx
      rw [List.length_map] at hi
      obtain ⟨d, hd, rfl⟩ := Option.map_eq_some_iff.mp hx
      have hds := cs.1
      refine ⟨rfl, _, rfl, p, C, dx, _, _, rfl, nk (s1 _ _ h1) hD, hc.cl, hc.nT, rfl, S g, rfl, lc2_in (walk_str (z := S g)) (fun j H' => H' = upd H1 D (.lst ((((ds.take i).flatMap fun d => g.map fun x => decide (((d.2.2.count x : Nat) : Int) % 2 = 1)) ++ ((g.take j).map fun x => decide (((d.2.2.count x : Nat) : Int) % 2 = 1))).map V.bl))) (by simp) (fun _ _ _ _ => trivial) ?_ ?_⟩
      · rintro j y H2 H3 hj rfl ⟨rfl, c, hcj, rfl⟩
        have hc2 : g[j]? = some c := by simpa [S] using hcj
        refine ⟨rfl, _, rfl, ⟨_, rfl⟩, _, rfl, _, _, rfl, rfl, _, _, rfl, rfl, (by show (0 : Int) < 2; decide), rfl, _, upd_same, ?_, ?_⟩
        · rw [List.length_map, List.length_append, List.length_map, List.length_take]
          have := mm i
          exact Nat.lt_of_le_of_lt (by omega : _ ≤ 200000) (by decide)
        · have ec : Txt.count (S d.2.2) ⟨#[c]⟩ = ((d.2.2.count c : Nat) : Int) := count_S d.2.2 c
          rw [upd_upd, ec, List.take_add_one, hc2]
          have e : decide (V.int (((d.2.2.count c : Nat) : Int) % 2) = V.int 1) = decide (((d.2.2.count c : Nat) : Int) % 2 = 1) := by simp
          rw [e]
          simp
      · rintro H2 rfl
        have hsz : (S g).cps.size = g.length := by simp [S]
        rw [hsz, List.take_length, List.take_add_one, hd, List.flatMap_append]
        simp
    · rintro H' rfl
      have e : (cycV ds).length = ds.length := by unfold cycV; rw [List.length_map]
      rw [e, List.take_length]
      refine ⟨D, _, rfl, SqL.of upd_same, ?_⟩
      have e2 : (ds.flatMap fun d => g.map fun x => decide (((d.2.2.count x : Nat) : Int) % 2 = 1)).all id = ds.all fun d => oddC g d.2.2 := by
        rw [List.all_flatMap]
        congr 1
        funext d
        unfold oddC
        rw [List.all_map]
        rfl
      rw [e2]
      exact kQ _ (s1.trans (same_new hD))
end
end Lh
set_option Elab.async false
set_option linter.all false
set_option maxRecDepth 100000
set_option maxHeartbeats 4000000
namespace Lh
open PySem PySem.Spec PyProof.Rows L2 SX
theorem cut_take {l : List Nat} {z : Int} (h0 : 0 ≤ z) : cutS (S l) none (some z) = S (l.take z.toNat) := by
  unfold cutS
  have e : HT.sIx (S l).length (S l).length (some z) = min z.toNat l.length := by
    show (if z < 0 then _ else min z.toNat (S l).length) = _
    rw [if_neg (by omega), S_len]
  rw [HT.sIx_none, e, codes, List.drop_zero, Nat.sub_zero]
  by_cases h : z.toNat ≤ l.length
  · rw [Nat.min_eq_left h]
  · rw [Nat.min_eq_right (by omega), List.take_length, List.take_of_length_le (by omega)]
theorem cut_drop {l : List Nat} {z : Int} (h0 : 0 ≤ z) : cutS (S l) (some z) none = S (l.drop z.toNat) := by
  unfold cutS
  have e : HT.sIx (S l).length 0 (some z) = min z.toNat l.length := by
    show (if z < 0 then _ else min z.toNat (S l).length) = _
    rw [if_neg (by omega), S_len]
  rw [HT.sIx_none, e, codes, S_len]
  by_cases h : z.toNat ≤ l.length
  · rw [Nat.min_eq_left h, List.take_of_length_le (by rw [List.length_drop]; omega)]
  · rw [Nat.min_eq_right (by omega), List.drop_length, List.drop_eq_nil_of_le (by omega)]
    simp
/-- a sign of a text -/
theorem str_at {l : List Nat} {z : Int} (h0 : 0 ≤ z) (h1 : z < l.length) : ∃ c, atI (S l).cps.toList z = some c ∧ l[z.toNat]? = some c := by
  have hz : z.toNat < l.length := by omega
  have q : ∀ (j : Nat) (v : Nat), z = (j : Int) → l[j]? = some v → atI (S l).cps.toList z = some v := fun j v e h => by
    rw [e]
    refine atI_nat ?_
    rw [codes]
    exact h
  exact ⟨l[z.toNat], q z.toNat _ (by omega) (List.getElem?_eq_getElem hz), List.getElem?_eq_getElem hz⟩
/-- a one-letter text -/
abbrev let1 (c : Nat) : V := .str (S [c])
theorem join_lets (ls : List Nat) : Txt.join (S []) ((ls.map fun c => [c]).map S) = S ls := by
  rw [join_S]
  congr 1
  induction ls with
  | nil => rfl
  | cons a l ih =>
    cases l with
    | nil => rfl
    | cons b m =>
      rw [List.map_cons, List.map_cons]
      rw [List.map_cons] at ih
      show [a] ++ [] ++ TL.joinL [] ([b] :: m.map fun c => [c]) = _
      rw [ih]
      rfl
theorem strE : Str.ofString "" = S [] := by decide +kernel
structure GuildOk (g : List Nat) : Prop where
  nd : g.Nodup
  two : 2 ≤ g.length
  five : g.length ≤ 5
  az : ∀ c ∈ g, 65 ≤ c ∧ c ≤ 90
theorem guildRB : GuildOk [82, 66] := ⟨by decide, by decide, by decide, by decide⟩
end Lh
set_option Elab.async false
set_option linter.all false
set_option maxRecDepth 100000
set_option maxHeartbeats 8000000
namespace Lh
open PySem PySem.Spec PyProof.Rows L2 SX
/-- the sign ahead of place k, round the end -/
def prevC (c : List Nat) (k : Nat) : Option Nat := if k = 0 then c.getLast? else c[k - 1]?
def swiftC (c : List Nat) : Bool := !(List.range c.length).any fun k => decide (c[k]? = some 66 ∧ prevC c k = some 66)
theorem sub_bb (l : List Nat) (i : Nat) : PySem.Builtin.Str.subAt (S l) (S [66, 66]) i = true ↔ l[i]? = some 66 ∧ l[i + 1]? = some 66 := by
  unfold PySem.Builtin.Str.subAt
  rw [beq_iff_eq]
  have e : (S l).cps.extract i (i + (S [66, 66]).length) = (S [66, 66]).cps ↔ (l.drop i).take 2 = [66, 66] := by
    have h1 : (S [66, 66]).length = 2 := rfl
    rw [h1]
    constructor
    · intro h
      have := congrArg Array.toList h
      simp [S] at this
      exact this
    · intro h
      apply Array.toList_inj.mp
      simp [S]
      exact h
  rw [e]
  constructor
  · intro h
    have a := congrArg (fun z : List Nat => z[0]?) h
    have b := congrArg (fun z : List Nat => z[1]?) h
    simp [List.getElem?_take, List.getElem?_drop] at a b
    exact ⟨a, b⟩
  · rintro ⟨a, b⟩
    apply List.ext_getElem?
    intro k
    rw [List.getElem?_take, List.getElem?_drop]
    match k with
    | 0 => simpa using a
    | 1 => simpa using b
    | k + 2 => simp; omega
theorem swift_iff {c : List Nat} (hc : c ≠ []) {c0 : Nat} (h0 : c[0]? = some c0) : (!(!(PySem.Builtin.Str.occurrences (S (c ++ [c0])) (S [66, 66]) 0 (S (c ++ [c0])).length 1).isEmpty)) = swiftC c := by
  have hl : 0 < c.length := List.length_pos_iff.mpr hc
  have key : (∃ i, i + (S [66, 66]).length ≤ (S (c ++ [c0])).length ∧ PySem.Builtin.Str.subAt (S (c ++ [c0])) (S [66, 66]) i = true) ↔ ∃ k, k < c.length ∧ c[k]? = some 66 ∧ prevC c k = some 66 := by
    constructor
    · rintro ⟨i, hi, hs⟩
      have hi2 : i + 2 ≤ c.length + 1 := by
        rw [S_len, S_len] at hi
        simpa using hi
      obtain ⟨a, b⟩ := (sub_bb _ _).mp hs
      rw [List.getElem?_append_left (by omega)] at a
      by_cases q : i + 1 < c.length
      · rw [List.getElem?_append_left q] at b
        exact ⟨i + 1, q, b, by unfold prevC; rw [if_neg (by omega)]; exact a⟩
      · have e : i + 1 = c.length := by omega
        rw [e, List.getElem?_append_right (Nat.le_refl _), Nat.sub_self] at b
        simp at b
        refine ⟨0, hl, by rw [h0, b], ?_⟩
        unfold prevC
        rw [if_pos rfl, List.getLast?_eq_getElem?]
        have : c.length - 1 = i := by omega
        rw [this]
        exact a
    · rintro ⟨k, hk, a, b⟩
      unfold prevC at b
      by_cases q : k = 0
      · subst q
        rw [if_pos rfl, List.getLast?_eq_getElem?] at b
        refine ⟨c.length - 1, ?_, (sub_bb _ _).mpr ⟨?_, ?_⟩⟩
        · rw [S_len, S_len]
          simp
          omega
        · rw [List.getElem?_append_left (by omega)]
          exact b
        · have e : c.length - 1 + 1 = c.length := by omega
          rw [e, List.getElem?_append_right (Nat.le_refl _), Nat.sub_self]
          rw [h0] at a
          simpa using a
      · rw [if_neg q] at b
        refine ⟨k - 1, ?_, (sub_bb _ _).mpr ⟨?_, ?_⟩⟩
        · rw [S_len, S_len]
          simp
          omega
        · rw [List.getElem?_append_left (by omega)]
          exact b
        · have e : k - 1 + 1 = k := by omega
          rw [e, List.getElem?_append_left hk]
          exact a
  have f := PySem.StrLaws.found_iff (S (c ++ [c0])) (S [66, 66])
  rw [key] at f
  unfold swiftC
  congr 1
  rw [Bool.eq_iff_iff, f, List.any_eq_true]
  constructor
  · rintro ⟨k, hk, q⟩
    exact ⟨k, List.mem_range.mpr hk, decide_eq_true q⟩
  · rintro ⟨k, hk, q⟩
    exact ⟨k, List.mem_range.mp hk, of_decide_eq_true q⟩
section
variable {P : Program} {w : World} {K : PySem.W.Frag} {mg : Str → Option Value} {base : Heap}
theorem scSw : FnScope ["house", "cycle"] ["house"] (defScope (top 51)) := ⟨rfl, rfl, rfl, by decide +kernel, rfl, by decide +kernel, by decide +kernel⟩
theorem ok_sw (B : Blt mg) (D : Dfn K mg "is_swift" (top 51)) (c_cycles_of : Cal P w K mg base CX0 1 "cycles_of" ["house"] (spCy K)) : Cal P w K mg base CX0 2 "is_swift" ["house"] (spAllC K swiftC) := by
  have S' := scSw
  refine D.cal0 scSw (fun vs H Q E h => ?_) (fun _ _ _ _ _ _ us hl => match us, hl with | [_], _ => rfl) (fun f cdv A outer s H vs Q E hr h => ?_)
  · obtain ⟨p, n, g, ds, rfl, _⟩ := h
    rfl
  · obtain ⟨p, n, g, ds, rfl, ha, cs, hne, kQ⟩ := h
    refine ⟨_, (pss_one (ps_ret (pe_callB (cr_all rfl) (by rfl) B.all (by decide +kernel) (pa_cons (pe_lc (own := [("cycle", 1)]) (g := gName 1) (by rfl) S'.nd (pi_list (pcl c_cycles_of hr (pa_cons (pv 0) pa_nil))) (blkOk_by (N := ["house", "cycle"]) (sc := defScope (top 51)) (by decide +kernel)) (fun _ _ _ _ _ => (pg_name (i := 1) S'.nd rfl (Or.inl rfl))) (fun _ _ _ _ _ => pts_nil) (fun _ _ _ _ _ => (pe_cmpR op_notIn_str pe_str (pe_op op_add_str (pv 1) (pe_ix ix_str (pv 1) pe_int (fun _ _ => rfl))) (by rfl)))) pa_nil)))), ?_⟩
    refine ⟨_, rfl, p, n, g, ds, rfl, ha, cs.1, fun H1 l s1 hl hl1 => ⟨l, rfl, ⟨_, SqL.of hl1⟩, fun D hD => lc_it (walk_list (xs := cycV ds)) (fun i H' => H' = upd H1 D (.lst (((ds.take i).map fun d => swiftC d.2.2).map V.bl))) rfl ?_ ?_ ?_⟩⟩
    · rintro i H' _ rfl
      exact SqL.of (nk hl1 hD)
    · rintro i x H' H'' hi rfl ⟨rfl, hx⟩
      unfold cycV at hx
      rw [List.getElem?_map] at hx
      obtain ⟨⟨a, b, c⟩, hd, rfl⟩ := Option.map_eq_some_iff.mp hx
      have hm := List.mem_of_getElem? hd
      have hc1 : c ≠ [] := hne _ hm
      have hc2 : c.length ≤ 1000 := cs.2 _ hm
      have hc0 := List.length_pos_iff.mpr hc1
      obtain ⟨c0, e0⟩ : ∃ c0, c[0]? = some c0 := ⟨_, List.getElem?_eq_getElem hc0⟩
      obtain ⟨d0, hat, hd0⟩ := str_at (l := c) (z := 0) (by omega) (by omega)
      have : d0 = c0 := by
        have : c[0]? = some d0 := hd0
        rw [e0] at this
        exact (Option.some.inj this).symm
      subst this
      have ebb : Str.ofString "BB" = S [66, 66] := by decide +kernel
      refine ⟨rfl, _, rfl, _, rfl, _, _, d0, rfl, rfl, S_le hc2, hat, _, _, rfl, rfl, ?_, _, _, rfl, rfl, _, upd_same, ?_, ?_⟩
      · rw [S_len]
        show c.length + 1 ≤ sizeLine
        exact Nat.le_of_lt (Nat.lt_of_le_of_lt (by omega : _ ≤ 1001) (by decide))
      · rw [List.length_map, List.length_map, List.length_take]
        have := cs.1
        exact small1000 (by omega)
      · have ecat : S c ++ ⟨#[d0]⟩ = S (c ++ [d0]) := S_cat c [d0]
        rw [upd_upd, List.take_add_one, hd, ecat, ebb, swift_iff hc1 e0]
        rw [List.map_append, List.map_append]
        rfl
    · rintro H' rfl
      have e : (cycV ds).length = ds.length := by unfold cycV; rw [List.length_map]
      rw [e, List.take_length]
      refine ⟨D, _, rfl, SqL.of upd_same, ?_⟩
      rw [List.all_map]
      exact kQ _ (s1.trans (same_new hD))
end
end Lh
set_option Elab.async false
set_option linter.all false
set_option maxRecDepth 100000
set_option maxHeartbeats 8000000
namespace Lh
open PySem PySem.Spec PyProof.Rows L2 SX
def lngC (ds : List Door) : Int := ds.foldl (fun m d => if m < (d.2.2.length : Int) then (d.2.2.length : Int) else m) 0
theorem lngC_of (ds : List Door) {m : Int} (h : (ds = [] ∧ m = 0) ∨ ((∃ d ∈ ds, m = d.2.2.length) ∧ ∀ d ∈ ds, (d.2.2.length : Int) ≤ m)) : m = lngC ds := by
  have key : ∀ (l : List Door) (z : Int), (z ≤ l.foldl (fun m d => if m < (d.2.2.length : Int) then (d.2.2.length : Int) else m) z ∧ ∀ d ∈ l, (d.2.2.length : Int) ≤ l.foldl (fun m d => if m < (d.2.2.length : Int) then (d.2.2.length : Int) else m) z) ∧
      (l.foldl (fun m d => if m < (d.2.2.length : Int) then (d.2.2.length : Int) else m) z = z ∨ ∃ d ∈ l, l.foldl (fun m d => if m < (d.2.2.length : Int) then (d.2.2.length : Int) else m) z = (d.2.2.length : Int)) := by
    intro l
    induction l with
    | nil => intro z; simp
    | cons a l ih =>
      intro z
      rw [List.foldl_cons]
      obtain ⟨⟨h1, h2⟩, h3⟩ := ih (if z < (a.2.2.length : Int) then (a.2.2.length : Int) else z)
      refine ⟨⟨?_, ?_⟩, ?_⟩
      · split at h1 <;> rename_i q <;> simp only [q, if_true, if_false] at h1 ⊢ <;> omega
      · intro d hd
        rcases List.mem_cons.mp hd with rfl | hd
        · split at h1 <;> rename_i q <;> simp only [q, if_true, if_false] at h1 ⊢ <;> omega
        · exact h2 d hd
      · rcases h3 with h3 | ⟨d, hd, h3⟩
        · rw [h3]
          by_cases q : z < (a.2.2.length : Int)
          · right
            exact ⟨a, List.mem_cons_self, by rw [if_pos q]⟩
          · left
            rw [if_neg q]
        · right
          exact ⟨d, List.mem_cons_of_mem _ hd, h3⟩
  obtain ⟨⟨k1, k2⟩, k3⟩ := key ds 0
  rcases h with ⟨rfl, rfl⟩ | ⟨⟨d, hd, rfl⟩, hm⟩
  · rfl
  · have a := k2 d hd
    unfold lngC
    rcases k3 with k3 | ⟨e, he, k3⟩
    · omega
    · have := hm e he
      omega
theorem lngC_succ {ds : List Door} {i : Nat} {d : Door} (h : ds[i]? = some d) : lngC (ds.take (i + 1)) = if lngC (ds.take i) < (d.2.2.length : Int) then (d.2.2.length : Int) else lngC (ds.take i) := by
  rw [List.take_add_one, h]
  show lngC (ds.take i ++ [d]) = _
  unfold lngC
  rw [List.foldl_append]
  rfl
theorem all_succ {α : Type} {ds : List α} {i : Nat} {d : α} (f : α → Bool) (h : ds[i]? = some d) : (ds.take (i + 1)).all f = ((ds.take i).all f && f d) := by
  rw [List.take_add_one, h]
  show (ds.take i ++ [d]).all f = _
  simp
theorem prev_at {c : List Nat} {k : Nat} (hk : k < c.length) : ∃ x, atI (S c).cps.toList ((k : Int) - 1) = some x ∧ prevC c k = some x := by
  have hc : (S c).cps.toList = c := codes c
  rw [hc]
  cases k with
  | zero =>
    have e : prevC c 0 = c[c.length - 1]? := by
      unfold prevC
      rw [if_pos rfl, List.getLast?_eq_getElem?]
    rw [e]
    obtain ⟨x, hx⟩ : ∃ x, c[c.length - 1]? = some x := ⟨_, List.getElem?_eq_getElem (by omega)⟩
    refine ⟨x, ?_, hx⟩
    unfold atI ixN
    rw [show (((0 : Nat) : Int) - 1) = -1 from rfl]
    rw [if_neg (by decide), if_pos (by omega)]
    show c[(-1 + (c.length : Int)).toNat]? = some x
    rw [show (-1 + (c.length : Int)).toNat = c.length - 1 by omega]
    exact hx
  | succ k =>
    have e : prevC c (k + 1) = c[k]? := by
      unfold prevC
      rw [if_neg (by omega)]
      rfl
    rw [e]
    obtain ⟨x, hx⟩ : ∃ x, c[k]? = some x := ⟨_, List.getElem?_eq_getElem (by omega)⟩
    refine ⟨x, ?_, hx⟩
    rw [show (((k + 1 : Nat) : Int) - 1) = (k : Int) by omega]
    exact atI_nat hx
theorem vstrB {x : Nat} : decide (V.str ⟨#[x]⟩ = V.str (Str.ofString "B")) = decide (x = 66) := by
  rw [strB]
  simp [S]
theorem vstrE {x y : Nat} : decide (V.str ⟨#[x]⟩ = V.str ⟨#[y]⟩) = decide (x = y) := by simp
def swK (c : List Nat) (k : Nat) : Bool := decide (c[k]? = some 66 ∧ prevC c k = some 66)
theorem swiftC_eq (c : List Nat) : swiftC c = !(List.range c.length).any (swK c) := rfl
section
variable {P : Program} {w : World} {K : PySem.W.Frag} {mg : Str → Option Value} {base : Heap}
theorem scKi : FnScope ["_law_rooms", "_law_doors", "_law_guild_here", "_law_odd", "_law_even", "_law_strict", "_law_swift", "_law_longest", "_law_door", "_law_cycle", "_law_letter", "_law_sign", "_law_k"] ["_law_rooms", "_law_doors", "_law_guild_here"] (defScope (top 64)) := ⟨rfl, rfl, rfl, by decide +kernel, rfl, by decide +kernel, by decide +kernel⟩
def kindsV (n : Int) (g : List Nat) (ds : List Door) : List V := [.bl (ds.all fun d => oddC g d.2.2), .bl (ds.all fun d => evenC d.2.2), .bl (ds.all fun d => strictC d.2.2), .bl (decide ((ds.length : Int) + 1 = n)), .bl (ds.all fun d => swiftC d.2.2), .int (lngC ds)]
def spKi : Sp := fun vs H Q _ => ∃ (n : Int) (l : Addr) (refs : List V) (g : List Nat) (ds : List Door), vs = [.int n, .ref l, .str (S g)] ∧ H l = some (.lst refs) ∧ All2 (IsDoor H) refs ds ∧ CycShort ds ∧
  ∀ (H' : Hp) (r : Addr), Same H H' → H r = none → H' r = some (.lst (kindsV n g ds)) → Q (.ref r) H'
abbrev stK (n : Int) (l : Addr) (g : List Nat) (a b c d : Bool) (m : Int) (x8 x9 x10 x11 x12 : Option V) : L2.St := [some (.int n), some (.ref l), some (.str (S g)), some (.bl a), some (.bl b), some (.bl c), some (.bl d), some (.int m), x8, x9, x10, x11, x12]
def invKi (n : Int) (l : Addr) (g : List Nat) (ds : List Door) (H : Hp) (i : Nat) (σ : L2.St) (H' : Hp) : Prop := ∃ x8 x9 x10 x11 x12 : Option V,
  σ = stK n l g ((ds.take i).all fun d => oddC g d.2.2) ((ds.take i).all fun d => evenC d.2.2) ((ds.take i).all fun d => strictC d.2.2) ((ds.take i).all fun d => swiftC d.2.2) (lngC (ds.take i)) x8 x9 x10 x11 x12 ∧ Same H H'
theorem ok_ki (B : Blt mg) (D : Dfn K mg "_law_kinds" (top 64)) : Cal P w K mg base CX0 1 "_law_kinds" ["_law_rooms", "_law_doors", "_law_guild_here"] spKi := by
  have S' := scKi
  refine D.cal0 scKi (fun vs H Q E h => ?_) (fun _ _ _ _ _ _ us hl => match us, hl with | [_, _, _], _ => rfl) (fun f cdv A outer s H vs Q E hr h => ?_)
  · obtain ⟨n, l, refs, g, ds, rfl, _⟩ := h
    rfl
  · obtain ⟨n, l, refs, g, ds, rfl, hl, a2, cs, kQ⟩ := h
    refine ⟨_, (pss_cons (ps_set (i := 3) S'.nd rfl (Or.inl rfl) pe_bl)
 (pss_cons (ps_set (i := 4) S'.nd rfl (Or.inl rfl) pe_bl)
 (pss_cons (ps_set (i := 5) S'.nd rfl (Or.inl rfl) pe_bl)
 (pss_cons (ps_set (i := 6) S'.nd rfl (Or.inl rfl) pe_bl)
 (pss_cons (ps_set (i := 7) S'.nd rfl (Or.inl rfl) pe_int)
 (pss_cons (ps_for PassesOwn.never rfl (pi_list (pv 1)) (pg_name (i := 8) S'.nd rfl (Or.inl rfl))
  (pss_cons (ps_set (i := 9) S'.nd rfl (Or.inl rfl) (pe_ix ix_tup (pv 8) pe_int (fun _ _ => rfl)))
 (C8.pss_cut (ps_if (pt_cmpR op_gt (pe_callB call_len_str (by rfl) B.len PySem.boot_len (pa_cons (pv 9) pa_nil)) (pv 7) (nomark _)) (pss_one (ps_set (i := 7) S'.nd rfl (Or.inl rfl) (pe_callB call_len_str (by rfl) B.len PySem.boot_len (pa_cons (pv 9) pa_nil)))) pss_nil)
 (C8.pss_cut (ps_if (pt_cmpR op_ne (pe_op op_mod (pe_callTy call_int1 (by rfl) B.int (by decide +kernel) (pa_cons (pe_callB call_len_str (by rfl) B.len PySem.boot_len (pa_cons (pv 9) pa_nil)) pa_nil)) pe_int) pe_int (nomark _)) (pss_one (ps_set (i := 4) S'.nd rfl (Or.inl rfl) pe_bl)) pss_nil)
 (C8.pss_cut (ps_if (pt_cmpR op_ne (pe_callB call_len_str (by rfl) B.len PySem.boot_len (pa_cons (pv 9) pa_nil)) pe_int (nomark _)) (pss_one (ps_set (i := 5) S'.nd rfl (Or.inl rfl) pe_bl)) pss_nil)
 (pss_cons (ps_for PassesOwn.never rfl (pi_str (pv 2)) (pg_name (i := 10) S'.nd rfl (Or.inr rfl))
  (pss_one (ps_if (pt_cmpR op_eq (pe_op op_mod (pe_callTy call_int1 (by rfl) B.int (by decide +kernel) (pa_cons (pe_callB call_len_seq (by rfl) B.len PySem.boot_len (pa_cons (pe_lc (own := [("_law_sign", 11)]) (g := gName 11) (by rfl) S'.nd (pi_str (pv 9)) (blkOk_by (N := ["_law_rooms", "_law_doors", "_law_guild_here", "_law_odd", "_law_even", "_law_strict", "_law_swift", "_law_longest", "_law_door", "_law_cycle", "_law_letter", "_law_sign", "_law_k"]) (sc := defScope (top 64)) (by decide +kernel)) (fun _ _ _ _ _ => (pg_name (i := 11) S'.nd rfl (Or.inl rfl))) (fun _ _ _ _ _ => (pts_one (pt_cmpR op_eq (pv 11) (pv 10) (nomark _)))) (fun _ _ _ _ _ => (pv 11))) pa_nil)) pa_nil)) pe_int) pe_int (nomark _)) (pss_one (ps_set (i := 3) S'.nd rfl (Or.inl rfl) pe_bl)) pss_nil)))
 (pss_one (ps_for PassesOwn.never rfl (pi_range1 rfl B.range (pa_cons (pe_callB call_len_str (by rfl) B.len PySem.boot_len (pa_cons (pv 9) pa_nil)) pa_nil)) (pg_name (i := 12) S'.nd rfl (Or.inl rfl))
  (pss_one (ps_if (PW.pt (pw_and (pt_cmpR op_eq (pe_ix ix_str (pv 9) (pv 12) (fun _ _ => rfl)) pe_str (nomark _)) (pw_and1 (pt_cmpR op_eq (pe_ix ix_str (pv 9) (pe_op op_sub (pv 12) pe_int) (fun _ _ => rfl)) pe_str (nomark _))))) (pss_one (ps_set (i := 6) S'.nd rfl (Or.inl rfl) pe_bl)) pss_nil))))))))))
 (pss_one (ps_ret (pe_lst (pa_cons (pv 3) (pa_cons (pv 4) (pa_cons (pv 5) (pa_cons (pe_cmpR op_eq (pe_op op_add (pe_callB call_len_seq (by rfl) B.len PySem.boot_len (pa_cons (pv 1) pa_nil)) pe_int) (pv 0) (nomark _)) (pa_cons (pv 6) (pa_cons (pv 7) pa_nil))))))))))))))), ?_⟩
    refine ⟨_, rfl, l, rfl, ⟨_, SqL.of hl⟩, for_list (xs := refs) (invKi n l g ds H) ⟨_, _, _, _, _, rfl, fun _ _ e => e⟩ ?_ ?_ ?_⟩
    · rintro i σ H' _ ⟨_, _, _, _, _, _, s1⟩
      exact SqL.of (s1 _ _ hl)
    · rintro i x σ H1 hx ⟨x8, x9, x10, x11, x12, rfl, s1⟩
      obtain ⟨⟨a, b, c⟩, hd, q, rfl, hq⟩ := a2.gtl hx
      have hc2 : c.length ≤ 1000 := cs.2 _ (List.mem_of_getElem? hd)
      have hlen : ((S c).length : Int) = c.length := by rw [S_len]
      generalize eA : ((ds.take i).all fun d => oddC g d.2.2) = fa
      generalize eB : ((ds.take i).all fun d => evenC d.2.2) = fb
      generalize eC : ((ds.take i).all fun d => strictC d.2.2) = fc
      generalize eD : ((ds.take i).all fun d => swiftC d.2.2) = fd
      generalize eM : lngC (ds.take i) = m
      refine ⟨_, rfl, q, _, _, _, rfl, rfl, SqT.of (s1 _ _ hq), rfl, ?_⟩
      refine ⟨fun σ H' => σ = stK n l g fa fb fc fd (if m < (c.length : Int) then (c.length : Int) else m) (some (.ref q)) (some (.str (S c))) x10 x11 x12 ∧ H' = H1, ?_, ?_⟩
      · refine ⟨_, rfl, _, rfl, S_le hc2, _, rfl, _, _, rfl, rfl, _, rfl, ite2 (fun e => ?_) (fun e => ?_)⟩
        · have e1 := of_decide_eq_true e
          rw [hlen] at e1
          refine ⟨_, rfl, _, rfl, S_le hc2, ?_, rfl⟩
          rw [if_pos e1, hlen]
          rfl
        · have e1 : ¬ m < (c.length : Int) := fun z => e (decide_eq_true (by rw [hlen]; exact z))
          refine ⟨?_, rfl⟩
          rw [if_neg e1]
          rfl
      rintro σ H2 ⟨rfl, rfl⟩
      refine ⟨fun σ H' => σ = stK n l g fa (fb && evenC c) fc fd (if m < (c.length : Int) then (c.length : Int) else m) (some (.ref q)) (some (.str (S c))) x10 x11 x12 ∧ H' = H2, ?_, ?_⟩
      · refine ⟨_, rfl, _, rfl, S_le hc2, .inl ⟨_, rfl, _, _, rfl, rfl, (by show (0 : Int) < 2; decide), rfl, _, rfl, ite2 (fun e => ?_) (fun e => ?_)⟩⟩
        · have e1 : evenC c = false := by
            unfold evenC
            rw [← hlen]
            simpa using e
          refine ⟨?_, rfl⟩
          rw [e1, Bool.and_false]
          rfl
        · have e1 : evenC c = true := by
            unfold evenC
            rw [← hlen]
            simpa using e
          refine ⟨?_, rfl⟩
          rw [e1, Bool.and_true]
      rintro σ H2 ⟨rfl, rfl⟩
      refine ⟨fun σ H' => σ = stK n l g fa (fb && evenC c) (fc && strictC c) fd (if m < (c.length : Int) then (c.length : Int) else m) (some (.ref q)) (some (.str (S c))) x10 x11 x12 ∧ H' = H2, ?_, ?_⟩
      · refine ⟨_, rfl, _, rfl, S_le hc2, rfl, _, rfl, ite2 (fun e => ?_) (fun e => ?_)⟩
        · have e1 : strictC c = false := by
            unfold strictC
            rw [← hlen]
            simpa using e
          refine ⟨?_, rfl⟩
          rw [e1, Bool.and_false]
          rfl
        · have e1 : strictC c = true := by
            unfold strictC
            rw [← hlen]
            simpa using e
          refine ⟨?_, rfl⟩
          rw [e1, Bool.and_true]
      rintro σ H2 ⟨rfl, rfl⟩
      refine ⟨_, rfl, _, rfl, for_it (walk_str (z := S g)) (fun j σ H' => ∃ x10 x11 : Option V, σ = stK n l g (fa && (g.take j).all fun x => decide (((c.count x : Nat) : Int) % 2 = 1)) (fb && evenC c) (fc && strictC c) fd (if m < (c.length : Int) then (c.length : Int) else m) (some (.ref q)) (some (.str (S c))) x10 x11 x12 ∧ Same H2 H') ?_ ?_ ?_ ?_⟩
      · exact ⟨x10, x11, by simp, fun _ _ e => e⟩
      · exact fun _ _ _ _ _ => trivial
      · rintro j y σ H3 H4 hj ⟨x10, x11, rfl, s3⟩ ⟨rfl, x, hcj, rfl⟩
        have hc3 : g[j]? = some x := by simpa [S] using hcj
        refine ⟨_, rfl, _, rfl, fun D hD => lc_it (walk_str (z := S c)) (fun k H' => H' = upd H4 D (.lst (((c.take k).filter fun y => decide (y = x)).map fun y => V.str ⟨#[y]⟩))) rfl (fun _ _ _ _ => trivial) ?_ ?_⟩
        · rintro k y H5 H6 hk rfl ⟨rfl, z, hz, rfl⟩
          have hz2 : c[k]? = some z := by simpa [S] using hz
          refine ⟨rfl, _, rfl, _, rfl, rfl, _, rfl, ?_⟩
          rw [vstrE]
          refine ite2 (fun e1 => ?_) (fun e1 => ?_)
          · refine ⟨_, rfl, _, upd_same, ?_, ?_⟩
            · rw [List.length_map]
              have q1 := List.length_filter_le (fun y => decide (y = x)) (c.take k)
              rw [List.length_take] at q1
              exact small1000 (by omega)
            · rw [upd_upd, List.take_add_one, hz2]
              simp [e1]
          · rw [List.take_add_one, hz2]
            simp [e1]
        · rintro H5 rfl
          have esz : (S c).cps.size = c.length := by simp [S]
          rw [esz, List.take_length]
          have ecnt : ((((c.filter fun y => decide (y = x)).map fun y => V.str ⟨#[y]⟩).length : Nat) : Int) = ((c.count x : Nat) : Int) := by
            rw [List.length_map, List.count_eq_length_filter]
            congr 2
          have eall := all_succ (fun x => decide (((c.count x : Nat) : Int) % 2 = 1)) hc3
          have s5 := same_upd (o := .lst ((c.filter fun y => decide (y = x)).map fun y => V.str ⟨#[y]⟩)) s3 (s3.free hD)
          refine ⟨D, _, rfl, .inl (SqL.of upd_same), .inl ⟨_, rfl, _, _, rfl, rfl, (by show (0 : Int) < 2; decide), rfl, _, rfl, ite2 (fun e1 => ?_) (fun e1 => ?_)⟩⟩
          · have e2 := vint e1
            rw [ecnt] at e2
            refine ⟨some (.str ⟨#[x]⟩), x11, ?_, s5⟩
            rw [eall, decide_eq_false (by omega : ¬ ((c.count x : Nat) : Int) % 2 = 1)]
            simp
          · have e2 := vint_no e1
            rw [ecnt] at e2
            refine ⟨some (.str ⟨#[x]⟩), x11, ?_, s5⟩
            rw [eall, decide_eq_true (by omega : ((c.count x : Nat) : Int) % 2 = 1)]
            simp
      · rintro σ H3 ⟨x10, x11, rfl, s3⟩
        refine ⟨_, rfl, _, rfl, S_le hc2, _, rfl, by omega, by omega, for_range (lo := 0) (n := _) (fun j σ H' => ∃ x12 : Option V, σ = stK n l g (fa && oddC g c) (fb && evenC c) (fc && strictC c) (fd && !((List.range j).any (swK c))) (if m < (c.length : Int) then (c.length : Int) else m) (some (.ref q)) (some (.str (S c))) x10 x11 x12 ∧ Same H2 H') ?_ ?_ ?_⟩
        · refine ⟨x12, ?_, s3⟩
          have e : (S g).cps.size = g.length := by simp [S]
          rw [e, List.take_length]
          simp [oddC]
        · rintro j σ H4 hj ⟨x12, rfl, s4⟩
          have hj2 : j < c.length := by rw [hlen] at hj; omega
          obtain ⟨c1, hat1, hc1⟩ := str_at (l := c) (z := 0 + (j : Int)) (by omega) (by omega)
          obtain ⟨c2, hat2, hc2'⟩ := prev_at hj2
          have hc1' : c[j]? = some c1 := by rw [← hc1]; congr 1; omega
          have hat2' : atI (S c).cps.toList (0 + (j : Int) - 1) = some c2 := by rw [Int.zero_add]; exact hat2
          have esw : swK c j = (decide (c1 = 66) && decide (c2 = 66)) := by
            unfold swK
            rw [hc1', hc2']
            simp
          have eany : (List.range (j + 1)).any (swK c) = ((List.range j).any (swK c) || swK c j) := by rw [List.range_succ]; simp
          refine ⟨_, rfl, _, rfl, _, _, c1, rfl, rfl, S_le hc2, hat1, rfl, _, rfl, ?_⟩
          rw [vstrB]
          refine ite2 (fun e1 => ⟨_, rfl, _, rfl, _, _, rfl, rfl, _, _, c2, rfl, rfl, S_le hc2, hat2', rfl, _, rfl, ?_⟩) (fun e1 => ?_)
          · rw [vstrB]
            refine ite2 (fun e2 => ?_) (fun e2 => ?_)
            · refine ⟨some (.int (0 + (j : Int))), ?_, s4⟩
              rw [eany, esw, e1, e2]
              simp
            · refine ⟨some (.int (0 + (j : Int))), ?_, s4⟩
              rw [eany, esw, Bool.eq_false_iff.mpr e2]
              simp
          · refine ⟨some (.int (0 + (j : Int))), ?_, s4⟩
            rw [eany, esw, Bool.eq_false_iff.mpr e1]
            simp
        · rintro σ H4 ⟨x12, rfl, s4⟩
          have e1 := all_succ (fun d : Door => oddC g d.2.2) hd
          have e2 := all_succ (fun d : Door => evenC d.2.2) hd
          have e3 := all_succ (fun d : Door => strictC d.2.2) hd
          have e4 := all_succ (fun d : Door => swiftC d.2.2) hd
          have e5 := lngC_succ hd
          refine ⟨some (.ref q), some (.str (S c)), x10, x11, x12, ?_, s1.trans s4⟩
          rw [e1, e2, e3, e4, e5, eA, eB, eC, eD, eM]
          rw [swiftC_eq]
          have : ((S c).length : Int).toNat = c.length := by rw [hlen]; omega
          rw [show (((S (a, b, c).2.2).length : Int)).toNat = c.length from this]
    · rintro σ H1 ⟨x8, x9, x10, x11, x12, rfl, s1⟩
      have e : refs.length = ds.length := a2.len
      rw [e]
      simp only [List.take_length]
      refine ⟨_, rfl, _, rfl, _, rfl, _, rfl, l, refs, rfl, .inl (SqL.of (s1 _ _ hl)), _, _, rfl, rfl, _, rfl, rfl, _, rfl, _, rfl, (by show 6 ≤ sizeLine; decide), fun r hr' => ?_⟩
      refine kQ _ r (same_upd s1 (s1.free hr')) (s1.free hr') ?_
      rw [upd_same]
      unfold kindsV
      have e6 : decide ((fun i j => V.int (i + j)) (refs.length : Int) 1 = V.int n) = decide ((ds.length : Int) + 1 = n) := by rw [e]; simp
      rw [e6]
end
end Lh
set_option Elab.async false
set_option linter.all false
set_option maxRecDepth 100000
set_option maxHeartbeats 8000000
namespace Lh
open PySem PySem.Spec PyProof.Rows L2 SX
section
variable {P : Program} {w : World} {K : PySem.W.Frag} {mg : Str → Option Value} {base : Heap}
theorem scKr : FnScope ["_law_house_here", "_law_due", "_law_told", "_law_k", "_law_most"] ["_law_house_here", "_law_due"] (defScope (top 65)) := ⟨rfl, rfl, rfl, by decide +kernel, rfl, by decide +kernel, by decide +kernel⟩
def spKr (K : PySem.W.Frag) : Sp := fun vs H Q _ => ∃ (p r : Addr) (n : Int) (g : List Nat) (ds : List Door), vs = [.ref p, .ref r] ∧ HouseAt K H p n g ds ∧ CycShort ds ∧ (∀ d ∈ ds, d.2.2 ≠ []) ∧ g.length ≤ 100 ∧ H r = some (.lst (kindsV n g ds)) ∧
  ∀ H' : Hp, Same H H' → Q (.bl true) H'
abbrev told5 (n : Int) (g : List Nat) (ds : List Door) : List Bool := [ds.all fun d => oddC g d.2.2, ds.all fun d => evenC d.2.2, ds.all fun d => strictC d.2.2, decide ((ds.length : Int) = n - 1), ds.all fun d => swiftC d.2.2]
theorem ok_kr (B : Blt mg) (D : Dfn K mg "_law_kinds_right" (top 65)) (c_law_is_integer : Cal P w K mg base CX0 1 "_law_is_integer" ["_law_actual"] spII)
    (c_is_odd : Cal P w K mg base CX0 2 "is_odd" ["house"] (spOd K)) (c_is_even : Cal P w K mg base CX0 2 "is_even" ["house"] (spAllC K evenC)) (c_is_strict : Cal P w K mg base CX0 2 "is_strict" ["house"] (spAllC K strictC))
    (c_is_tree : Cal P w K mg base CX0 1 "is_tree" ["house"] (spTre K)) (c_is_swift : Cal P w K mg base CX0 2 "is_swift" ["house"] (spAllC K swiftC)) (c_longest_cycle : Cal P w K mg base CX0 2 "longest_cycle" ["house"] (spLc K)) :
    Cal P w K mg base CX0 3 "_law_kinds_right" ["_law_house_here", "_law_due"] (spKr K) := by
  have S' := scKr
  refine D.cal0 scKr (fun vs H Q E h => ?_) (fun _ _ _ _ _ _ us hl => match us, hl with | [_, _], _ => rfl) (fun f cdv A outer s H vs Q E hr h => ?_)
  · obtain ⟨p, r, n, g, ds, rfl, _⟩ := h
    rfl
  · obtain ⟨p, r, n, g, ds, rfl, ha, cs, hne, hg, hrr, kQ⟩ := h
    refine ⟨_, (pss_cons (ps_set (i := 2) S'.nd rfl (Or.inl rfl) (pe_lst (pa_cons (pcl c_is_odd hr (pa_cons (pv 0) pa_nil)) (pa_cons (pcl c_is_even hr (pa_cons (pv 0) pa_nil)) (pa_cons (pcl c_is_strict hr (pa_cons (pv 0) pa_nil)) (pa_cons (pcl c_is_tree hr (pa_cons (pv 0) pa_nil)) (pa_cons (pcl c_is_swift hr (pa_cons (pv 0) pa_nil)) pa_nil)))))))
 (pss_cons (ps_for PassesOwn.never rfl (pi_range1 rfl B.range (pa_cons pe_int pa_nil)) (pg_name (i := 3) S'.nd rfl (Or.inl rfl))
  (pss_one (ps_if (PW.pt (pw_or (pt_not (pt_val (pe_callB call_isi (by rfl) B.isinstance (by decide +kernel) (pa_cons (pe_ix ix_list (pv 2) (pv 3) (fun _ _ => rfl)) (pa_cons (pe_bltn (v := .ty "bool") (u := .type "bool") (by rfl) B.bool (by decide +kernel) rfl) pa_nil))))) (pw_or1 (pt_cmpR op_ne (pe_ix ix_list (pv 2) (pv 3) (fun _ _ => rfl)) (pe_ix ix_list (pv 1) (pv 3) (fun _ _ => rfl)) (nomark _))))) (pss_one (ps_ret pe_bl)) pss_nil)))
 (pss_cons (ps_set (i := 4) S'.nd rfl (Or.inl rfl) (pcl c_longest_cycle hr (pa_cons (pv 0) pa_nil)))
 (pss_one (ps_ret (pe_and (pcl c_law_is_integer hr (pa_cons (pv 4) pa_nil)) (pe_one (pe_cmpR op_eq (pv 4) (pe_ix ix_list (pv 1) pe_int (fun _ _ => rfl)) (nomark _))))))))), ?_⟩
    refine ⟨_, rfl, p, n, g, ds, rfl, ha, cs, hg, fun H1 s1 => ?_⟩
    refine ⟨_, rfl, p, n, g, ds, rfl, ha.same s1, cs, hne, fun H2 s2' => ?_⟩
    have s2 := s1.trans s2'
    refine ⟨_, rfl, p, n, g, ds, rfl, ha.same s2, cs, hne, fun H3 s3' => ?_⟩
    have s3 := s2.trans s3'
    refine ⟨_, rfl, p, n, g, ds, rfl, ha.same s3, ?_⟩
    refine ⟨_, rfl, p, n, g, ds, rfl, ha.same s3, cs, hne, fun H4 s4' => ?_⟩
    have s4 := s3.trans s4'
    refine ⟨(by show 5 ≤ sizeLine; decide), fun l hl => ?_⟩
    have s5 := same_upd (o := .lst ((told5 n g ds).map V.bl)) s4 (s4.free hl)
    refine ⟨_, rfl, by omega, by omega, for_range (lo := 0) (n := _) (fun i σ H' => ∃ x : Option V, σ = [some (.ref p), some (.ref r), some (.ref l), x, none] ∧ H' = upd H4 l (.lst ((told5 n g ds).map V.bl))) ⟨none, rfl, rfl⟩ ?_ ?_⟩
    · rintro i σ H' hi ⟨x, rfl, rfl⟩
      obtain ⟨b, hb⟩ : ∃ b, (told5 n g ds)[i]? = some b := ⟨_, List.getElem?_eq_getElem (by show i < 5; omega)⟩
      have hb2 : ((told5 n g ds).map V.bl)[i]? = some (.bl b) := by rw [List.getElem?_map, hb]; rfl
      have hb3 : (kindsV n g ds)[i]? = some (.bl b) := by
        have e : decide ((ds.length : Int) + 1 = n) = decide ((ds.length : Int) = n - 1) := by
          rw [decide_eq_decide]
          omega
        have : i = 0 ∨ i = 1 ∨ i = 2 ∨ i = 3 ∨ i = 4 := by omega
        unfold kindsV
        rw [e]
        rcases this with rfl | rfl | rfl | rfl | rfl <;> (have := Option.some.inj hb; subst this; rfl)
      refine ⟨_, rfl, _, rfl, l, _, _, _, rfl, rfl, SqL.of upd_same, at_of (j := i) (by omega) hb2, _, _, _, _, _, rfl, .ty "bool", .base (.bl b), kit_bb, true, rfl, ?_⟩
      refine iteF ⟨_, rfl, _, rfl, l, _, _, _, rfl, rfl, SqL.of upd_same, at_of (j := i) (by omega) hb2, _, rfl, _, rfl, r, _, _, _, rfl, rfl, SqL.of (s5 _ _ hrr), at_of (j := i) (by omega) hb3, rfl, _, rfl, ?_⟩
      rw [decide_eq_true rfl]
      exact iteF ⟨_, rfl, rfl⟩
    · rintro σ H' ⟨x, rfl, rfl⟩
      refine ⟨_, rfl, p, n, g, ds, rfl, ha.same s5, cs, fun m H5 s6 hm => ?_⟩
      have em := lngC_of ds hm
      subst em
      refine ⟨_, rfl, _, rfl, ?_⟩
      refine ⟨true, rfl, iteT ⟨_, rfl, _, rfl, r, _, _, _, rfl, rfl, SqL.of (s6 _ _ (s5 _ _ hrr)), at_of (j := 5) rfl rfl, rfl, ?_⟩⟩
      rw [decide_eq_true rfl]
      exact kQ _ (s5.trans s6)
end
end Lh
set_option Elab.async false
set_option linter.all false
set_option maxRecDepth 100000
set_option maxHeartbeats 8000000
namespace Lh
open PySem PySem.Spec PyProof.Rows L2 SX SkE
/-- what the head tells of the two errors -/
structure ExF (K : PySem.W.Frag) (CU CN CH : Addr) : Prop where
  uu : PySem.W.exmOne K (.ref CU) (.ref CU) = some true
  nu : PySem.W.exmOne K (.ref CN) (.ref CU) = some false
  nn : PySem.W.exmOne K (.ref CN) (.ref CN) = some true
  uh : PySem.W.exmOne K (.ref CU) (.ref CH) = some true
  nh : PySem.W.exmOne K (.ref CN) (.ref CH) = some true
section
variable {P : Program} {w : World} {K : PySem.W.Frag} {mg : Str → Option Value} {base : Heap}
theorem scLDA : FnScope ["_law_house_here", "_law_spot"] ["_law_house_here", "_law_spot"] (defScope (top 66)) := ⟨rfl, rfl, rfl, by decide +kernel, rfl, by decide +kernel, by decide +kernel⟩
theorem scLOE : FnScope ["_law_house_here", "_law_door", "_law_spot"] ["_law_house_here", "_law_door", "_law_spot"] (defScope (top 67)) := ⟨rfl, rfl, rfl, by decide +kernel, rfl, by decide +kernel, by decide +kernel⟩
def spLDA (K : PySem.W.Frag) : Sp := fun vs H Q _ => ∃ (p : Addr) (n : Int) (g : List Nat) (ds : List Door) (r : Int), vs = [.ref p, .int r] ∧ HouseAt K H p n g ds ∧ Tell r ∧ ds.length ≤ 1000 ∧
  ((0 ≤ r ∧ r < n) → ∀ (H' : Hp) (t l : Addr), Same H H' → H t = none → H l = none → H' l = some (.lst ((doorsAt ds r).map V.int)) → H' t = some (.tup [.int 0, .ref l]) → Q (.ref t) H') ∧
  ((¬ (0 ≤ r ∧ r < n)) → ∀ (H' : Hp) (t : Addr), Same H H' → H t = none → H' t = some (.tup [.int 1, .non]) → Q (.ref t) H')
theorem ok_lda {CU CN CH : Addr} (B : Blt mg) (D : Dfn K mg "_law_doors_at" (top 66)) (F : ExF K CU CN CH) (eU : ExcC K mg "UnknownPart" CU) (c_doors_at : Cal P w K mg base (L2.CX P w) 3 "doors_at" ["house", "room"] (spDA K CU)) : Cal P w K mg base CX0 4 "_law_doors_at" ["_law_house_here", "_law_spot"] (spLDA K) := by
  have S' := scLDA
  refine D.cal0 scLDA (fun vs H Q E h => ?_) (fun _ _ _ _ _ _ us hl => match us, hl with | [_, _], _ => rfl) (fun f cdv A outer s H vs Q E hr h => ?_)
  · obtain ⟨p, n, g, ds, r, rfl, _⟩ := h
    rfl
  · obtain ⟨p, n, g, ds, r, rfl, ha, td, hds, kQ, kE⟩ := h
    refine ⟨_, (pss_one (ps_try_only rfl rfl ⟨rfl, by decide, .inl eU.g⟩ takes0 (fun W pn xe tk _ => (pss_one (ps_ret (pe_tup (pa_cons pe_int (pa_cons (pclS c_doors_at hr tk (pa_cons (pv 0) (pa_cons (pv 1) pa_nil))) pa_nil)))))) (fun a oe cls d pn _ _ => (pss_one (ps_ret (pe_tup (pa_cons pe_int (pa_cons pe_non pa_nil)))))))), ?_⟩
    refine ⟨_, rfl, _, rfl, p, n, g, ds, r, rfl, ha, td, hds, fun hin H' l s1 hl hl' => ⟨(by show 2 ≤ sizeLine; decide), fun t ht => ?_⟩, fun hout H' s1 => ⟨true, F.uu, fun _ a _ => ⟨(by show 2 ≤ sizeLine; decide), fun t ht => ?_⟩, fun q => nomatch q⟩⟩
    · exact kQ hin _ t l (same_upd s1 (s1.free ht)) (s1.free ht) hl (nk hl' ht) upd_same
    · exact kE hout _ t (same_upd s1 (s1.free ht)) (s1.free ht) upd_same
def spLOE (K : PySem.W.Frag) : Sp := fun vs H Q _ => ∃ (p : Addr) (n : Int) (g : List Nat) (ds : List Door) (d r : Int), vs = [.ref p, .int d, .int r] ∧ HouseAt K H p n g ds ∧ Tell d ∧ Tell r ∧
  ((¬ ((0 ≤ d ∧ d < ds.length) ∧ (0 ≤ r ∧ r < n))) → ∀ (H' : Hp) (t : Addr), Same H H' → H t = none → H' t = some (.tup [.int 1, .non]) → Q (.ref t) H') ∧
  (0 ≤ d → (0 ≤ r ∧ r < n) → ∀ a b c, ds[d.toNat]? = some (a, b, c) → ((r ≠ a ∧ r ≠ b) → ∀ (H' : Hp) (t : Addr), Same H H' → H t = none → H' t = some (.tup [.int 2, .non]) → Q (.ref t) H') ∧
    ((r = a ∨ r = b) → ∀ (H' : Hp) (t : Addr), Same H H' → H t = none → H' t = some (.tup [.int 0, .int (if r = a then b else a)]) → Q (.ref t) H'))
theorem ok_loe {CU CN CH : Addr} (B : Blt mg) (D : Dfn K mg "_law_other_end" (top 67)) (F : ExF K CU CN CH) (eU : ExcC K mg "UnknownPart" CU) (eN : ExcC K mg "NotThere" CN) (c_other_end : Cal P w K mg base (L2.CX P w) 3 "other_end" ["house", "door", "room"] (spOE K CU CN)) : Cal P w K mg base CX0 4 "_law_other_end" ["_law_house_here", "_law_door", "_law_spot"] (spLOE K) := by
  have S' := scLOE
  refine D.cal0 scLOE (fun vs H Q E h => ?_) (fun _ _ _ _ _ _ us hl => match us, hl with | [_, _, _], _ => rfl) (fun f cdv A outer s H vs Q E hr h => ?_)
  · obtain ⟨p, n, g, ds, d, r, rfl, _⟩ := h
    rfl
  · obtain ⟨p, n, g, ds, d, r, rfl, ha, td, tr, kU, kQ⟩ := h
    refine ⟨_, (pss_one (ps_try_many rfl rfl takes0 (fun W pn xe tk _ => (pss_one (ps_ret (pe_tup (pa_cons pe_int (pa_cons (pclS c_other_end hr tk (pa_cons (pv 0) (pa_cons (pv 1) (pa_cons (pv 2) pa_nil)))) pa_nil)))))) (.cons ⟨rfl, by decide, .inl eU.g⟩ (fun a oe cls d pn _ _ => (pss_one (ps_ret (pe_tup (pa_cons pe_int (pa_cons pe_non pa_nil)))))) (.cons ⟨rfl, by decide, .inl eN.g⟩ (fun a oe cls d pn _ _ => (pss_one (ps_ret (pe_tup (pa_cons pe_int (pa_cons pe_non pa_nil)))))) .nil)))), ?_⟩
    refine ⟨_, rfl, _, rfl, _, rfl, p, n, g, ds, d, r, rfl, ha, td, tr, fun hout H' s1 => ⟨true, F.uu, fun _ a _ => ⟨(by show 2 ≤ sizeLine; decide), fun t ht => ?_⟩, fun q => nomatch q⟩, fun h0 h1 a b c e => ⟨fun hne H' s1 => ?_, fun heq H' s1 => ⟨(by show 2 ≤ sizeLine; decide), fun t ht => ?_⟩⟩⟩
    · exact kU hout _ t (same_upd s1 (s1.free ht)) (s1.free ht) upd_same
    · refine ⟨false, F.nu, fun q => (nomatch q), fun _ => ⟨true, F.nn, fun _ _ _ => ⟨(by show 2 ≤ sizeLine; decide), fun t ht => ?_⟩, fun q => nomatch q⟩⟩
      exact (kQ h0 h1 a b c e).1 hne _ t (same_upd s1 (s1.free ht)) (s1.free ht) upd_same
    · exact (kQ h0 h1 a b c e).2 heq _ t (same_upd s1 (s1.free ht)) (s1.free ht) upd_same
end
end Lh
set_option Elab.async false
set_option linter.all false
set_option maxRecDepth 100000
set_option maxHeartbeats 4000000
/-! isinstance of a caught error, whatever own class it has; one class or a tuple of classes. -/
namespace Lh
open PySem PySem.Spec PyProof.Rows L2
def rIsV (K : PySem.W.Frag) (cls : Value) (d : Option Addr) (a : Addr) : List V → Hp → VK → Prop := fun xs H Q => ∃ (D : Addr) (c : V) (cv : Value) (b : Bool), cls = .ref D ∧ d = none ∧ L2.ExcC K D ∧ xs = [.ref a, c] ∧ ClsV c cv ∧ PySem.W.kitOne K (.ref D) cv = some b ∧ Q (.bl b) H
theorem call_isV {X : Cx} {a : Addr} {oe : Obj} {pn : List (Addr × Obj)} {cls : Value} {d : Option Addr} (hz : Zc cls d oe) (hf : ∃ vs, oe.data = .fields vs) : CallR (X.suite a ((a, oe) :: pn)) (.builtin "isinstance") (rIsV X.K cls d a) := by
  intro pins s σ H xs us Q I r h
  obtain ⟨D, c, cv, b, rfl, rfl, C, rfl, k, e, q⟩ := h
  exact call_isE C hz hf pins s σ H _ us Q I r ⟨c, cv, b, rfl, fun u r => k.eq r, e, q⟩
def rIsVT (K : PySem.W.Frag) (cls : Value) (d : Option Addr) (a : Addr) : List V → Hp → VK → Prop := fun xs H Q => ∃ (D tp : Addr) (cs : List V) (ws : List Value) (b : Bool), cls = .ref D ∧ d = none ∧ L2.ExcC K D ∧ xs = [.ref a, .ref tp] ∧ H tp = some (.tup cs) ∧ Paired ClsV cs ws ∧ PySem.W.kitAny K (.ref D) ws = some b ∧ Q (.bl b) H
/-- what the heap has of a caught error of the class at D -/
theorem inst_at {X : Cx} {pins : List (Addr × Obj)} {σ : L2.St} {H : Hp} {s : Shared} {a D : Addr} {oe : Obj} {pn : List (Addr × Obj)} (I : Inv (X.suite a ((a, oe) :: pn)) pins σ H s) (hz : Zc (.ref D) none oe) (hf : ∃ vs, oe.data = .fields vs) : PySem.W.InstAt s.heap a oe D none :=
  ⟨(I.pin (a, oe) (by simp [Cx.suite])).1, hz.1, hf.elim fun vs e => by unfold PySem.W.notCls; rw [e], by rw [show oe.dict = none from hz.2]; trivial⟩
theorem call_isVT {X : Cx} {a : Addr} {oe : Obj} {pn : List (Addr × Obj)} {cls : Value} {d : Option Addr} (hz : Zc cls d oe) (hf : ∃ vs, oe.data = .fields vs) : CallR (X.suite a ((a, oe) :: pn)) (.builtin "isinstance") (rIsVT X.K cls d a) := fun pins s σ H xs us Q I r h => by
  obtain ⟨D, tp, cs, ws, b, hD, hd, C, hx, hT, k, e, q⟩ := h
  subst hD hd hx
  have hu : us = [.ref a, .ref tp] := by
    obtain ⟨u, v, e1, e2, e3⟩ := vals2 r
    rw [e1, show u = Value.ref a from e2, show v = Value.ref tp from e3]
  rw [hu]
  obtain ⟨its, rv, ⟨o, hg, ho, n, hi⟩, _⟩ := I.tuple (SqT.of hT)
  have kit := PySem.W.handS_kitx_exc (x := a) (ox := oe) C.hg C.hk C.hs C.hd C.ha C.hn C.ht C.hm
  have ht : s.heap.get? tp = some ⟨.type "tuple", o.dict, .seq ws.toArray n, o.slots⟩ := by
    rw [hg, ← ClsV.all k rv, ← ho, ← hi]
  exact PySem.W.kia_tup kit I.kIn (inst_at I hz hf) ht e nofun fun t => ⟨.bl b, H, I.kept (t' := t) fun _ _ z => z, rfl, q⟩
end Lh
set_option Elab.async false
set_option linter.all false
set_option maxRecDepth 100000
set_option maxHeartbeats 8000000
namespace Lh
open PySem PySem.Spec PyProof.Rows L2 SX SkE
def famAll : List Str := famA ++ fam1 ++ fam2 ++ fam3
/-- what the head tells of the family's classes -/
structure FamF (K : PySem.W.Frag) (mg : Str → Option Value) (gC : Str → Addr) : Prop where
  glo : ∀ x ∈ famAll, mg x = some (.ref (gC x))
  exU : L2.ExcC K (gC "UnknownPart")
  exN : L2.ExcC K (gC "NotThere")
  kU : ∀ x ∈ fam1 ++ fam2 ++ fam3, PySem.W.kitOne K (.ref (gC "UnknownPart")) (.ref (gC x)) = some false
  kN : ∀ x ∈ fam1 ++ fam2 ++ fam3, PySem.W.kitOne K (.ref (gC "NotThere")) (.ref (gC x)) = some false
  vU : PySem.W.kitOne K (.ref (gC "UnknownPart")) (.type "ValueError") = some true
  vN : PySem.W.kitOne K (.ref (gC "NotThere")) (.type "ValueError") = some true
  uu : PySem.W.kitOne K (.ref (gC "UnknownPart")) (.ref (gC "UnknownPart")) = some true
  un : PySem.W.kitOne K (.ref (gC "UnknownPart")) (.ref (gC "NotThere")) = some false
  nu : PySem.W.kitOne K (.ref (gC "NotThere")) (.ref (gC "UnknownPart")) = some false
  nn : PySem.W.kitOne K (.ref (gC "NotThere")) (.ref (gC "NotThere")) = some true
theorem kitAny_no {K : PySem.W.Frag} {t : Value} {gC : Str → Addr} : ∀ l : List Str, (∀ x ∈ l, PySem.W.kitOne K t (.ref (gC x)) = some false) → PySem.W.kitAny K t (l.map fun x => .ref (gC x)) = some false
  | [], _ => rfl
  | x :: l, h => kitAny_cons (h x List.mem_cons_self) (fun _ => kitAny_no l fun y hy => h y (List.mem_cons_of_mem _ hy)) fun q => nomatch q
theorem paired_own {gC : Str → Addr} : ∀ l : List Str, Paired ClsV (l.map fun x => V.ref (gC x)) (l.map fun x => Value.ref (gC x))
  | [] => .nil
  | x :: l => .cons (.own _) (paired_own l)
section
variable {P : Program} {w : World} {K : PySem.W.Frag} {mg : Str → Option Value} {base : Heap}
theorem scFam : FnScope ["_law_house_here", "_law_door", "_law_spot", "_law_alone", "e"] ["_law_house_here", "_law_door", "_law_spot", "_law_alone"] (defScope (top 68)) := ⟨rfl, rfl, rfl, by decide +kernel, rfl, by decide +kernel, by decide +kernel⟩
def spFam (K : PySem.W.Frag) : Sp := fun vs H Q _ => ∃ (p : Addr) (n : Int) (g : List Nat) (ds : List Door) (d r : Int) (al : Bool), vs = [.ref p, .int d, .int r, .bl al] ∧ HouseAt K H p n g ds ∧ Tell d ∧ Tell r ∧ ds.length ≤ 1000 ∧
  ((al = true ∧ ¬ (0 ≤ r ∧ r < n) ∧ ∀ H', Same H H' → Q (.int 1) H') ∨ (al = false ∧ ¬ ((0 ≤ d ∧ d < ds.length) ∧ (0 ≤ r ∧ r < n)) ∧ ∀ H', Same H H' → Q (.int 1) H') ∨
    (al = false ∧ 0 ≤ d ∧ (0 ≤ r ∧ r < n) ∧ (∃ a b c, ds[d.toNat]? = some (a, b, c) ∧ r ≠ a ∧ r ≠ b) ∧ ∀ H', Same H H' → Q (.int 2) H'))
theorem ok_fam {gC : Str → Addr} (B : Blt mg) (hVE : mg "ValueError" = none) (D : Dfn K mg "_law_family" (top 68)) (fF : FamF K mg gC) (F : ExF K (gC "UnknownPart") (gC "NotThere") (gC "HouseError")) (eH : ExcC K mg "HouseError" (gC "HouseError"))
    (c_doors_at : Cal P w K mg base (L2.CX P w) 3 "doors_at" ["house", "room"] (spDA K (gC "UnknownPart"))) (c_other_end : Cal P w K mg base (L2.CX P w) 3 "other_end" ["house", "door", "room"] (spOE K (gC "UnknownPart") (gC "NotThere"))) : Cal P w K mg base CX0 4 "_law_family" ["_law_house_here", "_law_door", "_law_spot", "_law_alone"] (spFam K) := by
  have S' := scFam
  refine D.cal0 scFam (fun vs H Q E h => ?_) (fun _ _ _ _ _ _ us hl => match us, hl with | [_, _, _, _], _ => rfl) (fun f cdv A outer s H vs Q E hr h => ?_)
  · obtain ⟨p, n, g, ds, d, r, al, rfl, _⟩ := h
    rfl
  · obtain ⟨p, n, g, ds, d, r, al, rfl, ha, td, tr, hds, h⟩ := h
    refine ⟨_, (pss_cons (ps_try_as (i := 4) rfl rfl S'.nd rfl rfl ⟨rfl, by decide, .inl eH.g⟩ takes0 (fun W pn xe tk _ => (pss_one (ps_if (pt_val (pv 3)) (pss_one (ps_expr (pclS c_doors_at hr tk (pa_cons (pv 0) (pa_cons (pv 2) pa_nil))))) (pss_one (ps_expr (pclS c_other_end hr tk (pa_cons (pv 0) (pa_cons (pv 1) (pa_cons (pv 2) pa_nil))))))))) (fun a oe cls d pn hz hf => (pss_cons (ps_if (pt_val (pe_callB (call_isVT hz hf) (by rfl) B.isinstance (by decide +kernel) (pa_cons (pv 4) (pa_cons (pe_tup (pa_cons (pe_glob (v := .ref (gC "BadDeed")) (by rfl) (fF.glo "BadDeed" (by decide +kernel)) rfl) (pa_cons (pe_glob (v := .ref (gC "InvalidText")) (by rfl) (fF.glo "InvalidText" (by decide +kernel)) rfl) (pa_cons (pe_glob (v := .ref (gC "NotPossible")) (by rfl) (fF.glo "NotPossible" (by decide +kernel)) rfl) (pa_cons (pe_glob (v := .ref (gC "Refused")) (by rfl) (fF.glo "Refused" (by decide +kernel)) rfl) (pa_cons (pe_glob (v := .ref (gC "InvalidStanding")) (by rfl) (fF.glo "InvalidStanding" (by decide +kernel)) rfl) (pa_cons (pe_glob (v := .ref (gC "InvalidHouse")) (by rfl) (fF.glo "InvalidHouse" (by decide +kernel)) rfl) (pa_cons (pe_glob (v := .ref (gC "UnlikeHands")) (by rfl) (fF.glo "UnlikeHands" (by decide +kernel)) rfl) pa_nil)))))))) pa_nil)))) (pss_one (ps_ret pe_int)) pss_nil)
 (pss_cons (ps_if (pt_val (pe_callB (call_isVT hz hf) (by rfl) B.isinstance (by decide +kernel) (pa_cons (pv 4) (pa_cons (pe_tup (pa_cons (pe_glob (v := .ref (gC "WrongTrades")) (by rfl) (fF.glo "WrongTrades" (by decide +kernel)) rfl) (pa_cons (pe_glob (v := .ref (gC "NoDoors")) (by rfl) (fF.glo "NoDoors" (by decide +kernel)) rfl) (pa_cons (pe_glob (v := .ref (gC "NotEven")) (by rfl) (fF.glo "NotEven" (by decide +kernel)) rfl) (pa_cons (pe_glob (v := .ref (gC "NotOdd")) (by rfl) (fF.glo "NotOdd" (by decide +kernel)) rfl) (pa_cons (pe_glob (v := .ref (gC "NotTree")) (by rfl) (fF.glo "NotTree" (by decide +kernel)) rfl) (pa_cons (pe_glob (v := .ref (gC "NotStrict")) (by rfl) (fF.glo "NotStrict" (by decide +kernel)) rfl) (pa_cons (pe_glob (v := .ref (gC "NotSwift")) (by rfl) (fF.glo "NotSwift" (by decide +kernel)) rfl) (pa_cons (pe_glob (v := .ref (gC "TooFewHands")) (by rfl) (fF.glo "TooFewHands" (by decide +kernel)) rfl) (pa_cons (pe_glob (v := .ref (gC "NoPair")) (by rfl) (fF.glo "NoPair" (by decide +kernel)) rfl) pa_nil)))))))))) pa_nil)))) (pss_one (ps_ret pe_int)) pss_nil)
 (pss_cons (ps_if (pt_val (pe_callB (call_isVT hz hf) (by rfl) B.isinstance (by decide +kernel) (pa_cons (pv 4) (pa_cons (pe_tup (pa_cons (pe_glob (v := .ref (gC "NoCrew")) (by rfl) (fF.glo "NoCrew" (by decide +kernel)) rfl) (pa_cons (pe_glob (v := .ref (gC "NoMaster")) (by rfl) (fF.glo "NoMaster" (by decide +kernel)) rfl) (pa_cons (pe_glob (v := .ref (gC "NotTogether")) (by rfl) (fF.glo "NotTogether" (by decide +kernel)) rfl) (pa_cons (pe_glob (v := .ref (gC "BadSteps")) (by rfl) (fF.glo "BadSteps" (by decide +kernel)) rfl) (pa_cons (pe_glob (v := .ref (gC "NotDead")) (by rfl) (fF.glo "NotDead" (by decide +kernel)) rfl) (pa_cons (pe_glob (v := .ref (gC "NotLive")) (by rfl) (fF.glo "NotLive" (by decide +kernel)) rfl) (pa_cons (pe_glob (v := .ref (gC "NotRooted")) (by rfl) (fF.glo "NotRooted" (by decide +kernel)) rfl) pa_nil)))))))) pa_nil)))) (pss_one (ps_ret pe_int)) pss_nil)
 (pss_cons (ps_if (PW.pt (pw_or (pt_not (pt_val (pe_callB (call_isV hz hf) (by rfl) B.isinstance (by decide +kernel) (pa_cons (pv 4) (pa_cons (pe_bltn (v := .ty "ValueError") (u := .type "ValueError") (by rfl) hVE (by decide +kernel) rfl) pa_nil))))) (pw_or1 (pt_cmpR op_eq (pe_callB (call_isV hz hf) (by rfl) B.isinstance (by decide +kernel) (pa_cons (pv 4) (pa_cons (pe_glob (v := .ref (gC "UnknownPart")) (by rfl) (fF.glo "UnknownPart" (by decide +kernel)) rfl) pa_nil))) (pe_callB (call_isV hz hf) (by rfl) B.isinstance (by decide +kernel) (pa_cons (pv 4) (pa_cons (pe_glob (v := .ref (gC "NotThere")) (by rfl) (fF.glo "NotThere" (by decide +kernel)) rfl) pa_nil))) (nomark _))))) (pss_one (ps_ret pe_int)) pss_nil)
 (pss_one (ps_ret (pe_op op_add pe_int (pe_callTy call_int1 (by rfl) B.int (by decide +kernel) (pa_cons (pe_callB (call_isV hz hf) (by rfl) B.isinstance (by decide +kernel) (pa_cons (pv 4) (pa_cons (pe_glob (v := .ref (gC "NotThere")) (by rfl) (fF.glo "NotThere" (by decide +kernel)) rfl) pa_nil))) pa_nil)))))))))))
 (pss_one (ps_ret pe_int))), ?_⟩
    refine ⟨_, rfl, al, rfl, ?_⟩
    rcases h with ⟨rfl, hout, kQ⟩ | ⟨rfl, hout, kQ⟩ | ⟨rfl, h0, hin, ⟨a, b, c, e, ne⟩, kQ⟩
    · refine iteT ⟨_, rfl, _, rfl, p, n, g, ds, r, rfl, ha, tr, hds, fun hin => absurd hin hout, fun _ H1 s1 => ⟨true, F.uh, fun _ ex _ => ?_, fun q => nomatch q⟩⟩
      have z1 := fun x (hx : x ∈ fam1) => fF.kU x (List.mem_append_left _ (List.mem_append_left _ hx))
      have z2 := fun x (hx : x ∈ fam2) => fF.kU x (List.mem_append_left _ (List.mem_append_right _ hx))
      have z3 := fun x (hx : x ∈ fam3) => fF.kU x (List.mem_append_right _ hx)
      refine ⟨_, rfl, (by show 7 ≤ sizeLine; decide), fun t1 ht1 => ⟨_, t1, _, _, false, rfl, rfl, fF.exU, rfl, upd_same, paired_own fam1, kitAny_no fam1 z1, _, rfl, iteF ?_⟩⟩
      have q1 := same_upd (o := .tup (fam1.map fun x => V.ref (gC x))) s1 (s1.free ht1)
      refine ⟨_, rfl, (by show 9 ≤ sizeLine; decide), fun t2 ht2 => ⟨_, t2, _, _, false, rfl, rfl, fF.exU, rfl, upd_same, paired_own fam2, kitAny_no fam2 z2, _, rfl, iteF ?_⟩⟩
      have q2 := same_upd (o := .tup (fam2.map fun x => V.ref (gC x))) q1 (q1.free ht2)
      refine ⟨_, rfl, (by show 7 ≤ sizeLine; decide), fun t3 ht3 => ⟨_, t3, _, _, false, rfl, rfl, fF.exU, rfl, upd_same, paired_own fam3, kitAny_no fam3 z3, _, rfl, iteF ?_⟩⟩
      have q3 := same_upd (o := .tup (fam3.map fun x => V.ref (gC x))) q2 (q2.free ht3)
      refine ⟨_, rfl, _, _, _, true, rfl, rfl, fF.exU, rfl, .ty "ValueError", fF.vU, true, rfl, iteF ?_⟩
      refine ⟨_, rfl, _, _, _, true, rfl, rfl, fF.exU, rfl, .own _, fF.uu, _, rfl, _, _, _, false, rfl, rfl, fF.exU, rfl, .own _, fF.un, rfl, ?_⟩
      refine ⟨_, rfl, iteF ?_⟩
      exact ⟨_, rfl, _, _, _, false, rfl, rfl, fF.exU, rfl, .own _, fF.un, .inr ⟨false, rfl, _, _, rfl, rfl, kQ _ q3⟩⟩
    · refine iteF ⟨_, rfl, _, rfl, _, rfl, p, n, g, ds, d, r, rfl, ha, td, tr, fun _ H1 s1 => ⟨true, F.uh, fun _ ex _ => ?_, fun q => nomatch q⟩, fun w0 w1 a b c e => absurd ⟨⟨w0, by have := (List.getElem?_eq_some_iff.mp e).1; omega⟩, w1⟩ hout⟩
      have z1 := fun x (hx : x ∈ fam1) => fF.kU x (List.mem_append_left _ (List.mem_append_left _ hx))
      have z2 := fun x (hx : x ∈ fam2) => fF.kU x (List.mem_append_left _ (List.mem_append_right _ hx))
      have z3 := fun x (hx : x ∈ fam3) => fF.kU x (List.mem_append_right _ hx)
      refine ⟨_, rfl, (by show 7 ≤ sizeLine; decide), fun t1 ht1 => ⟨_, t1, _, _, false, rfl, rfl, fF.exU, rfl, upd_same, paired_own fam1, kitAny_no fam1 z1, _, rfl, iteF ?_⟩⟩
      have q1 := same_upd (o := .tup (fam1.map fun x => V.ref (gC x))) s1 (s1.free ht1)
      refine ⟨_, rfl, (by show 9 ≤ sizeLine; decide), fun t2 ht2 => ⟨_, t2, _, _, false, rfl, rfl, fF.exU, rfl, upd_same, paired_own fam2, kitAny_no fam2 z2, _, rfl, iteF ?_⟩⟩
      have q2 := same_upd (o := .tup (fam2.map fun x => V.ref (gC x))) q1 (q1.free ht2)
      refine ⟨_, rfl, (by show 7 ≤ sizeLine; decide), fun t3 ht3 => ⟨_, t3, _, _, false, rfl, rfl, fF.exU, rfl, upd_same, paired_own fam3, kitAny_no fam3 z3, _, rfl, iteF ?_⟩⟩
      have q3 := same_upd (o := .tup (fam3.map fun x => V.ref (gC x))) q2 (q2.free ht3)
      refine ⟨_, rfl, _, _, _, true, rfl, rfl, fF.exU, rfl, .ty "ValueError", fF.vU, true, rfl, iteF ?_⟩
      refine ⟨_, rfl, _, _, _, true, rfl, rfl, fF.exU, rfl, .own _, fF.uu, _, rfl, _, _, _, false, rfl, rfl, fF.exU, rfl, .own _, fF.un, rfl, ?_⟩
      refine ⟨_, rfl, iteF ?_⟩
      exact ⟨_, rfl, _, _, _, false, rfl, rfl, fF.exU, rfl, .own _, fF.un, .inr ⟨false, rfl, _, _, rfl, rfl, kQ _ q3⟩⟩
    · have hd : d < ds.length := by have := (List.getElem?_eq_some_iff.mp e).1; omega
      refine iteF ⟨_, rfl, _, rfl, _, rfl, p, n, g, ds, d, r, rfl, ha, td, tr, fun hout => absurd ⟨⟨h0, hd⟩, hin⟩ hout, fun w0 w1 a' b' c' e' => ⟨fun _ H1 s1 => ⟨true, F.nh, fun _ ex _ => ?_, fun q => nomatch q⟩, fun z => ?_⟩⟩
      rotate_left
      · rw [e] at e'
        cases e'
        rcases z with z | z
        · exact absurd z ne.1
        · exact absurd z ne.2
      have z1 := fun x (hx : x ∈ fam1) => fF.kN x (List.mem_append_left _ (List.mem_append_left _ hx))
      have z2 := fun x (hx : x ∈ fam2) => fF.kN x (List.mem_append_left _ (List.mem_append_right _ hx))
      have z3 := fun x (hx : x ∈ fam3) => fF.kN x (List.mem_append_right _ hx)
      refine ⟨_, rfl, (by show 7 ≤ sizeLine; decide), fun t1 ht1 => ⟨_, t1, _, _, false, rfl, rfl, fF.exN, rfl, upd_same, paired_own fam1, kitAny_no fam1 z1, _, rfl, iteF ?_⟩⟩
      have q1 := same_upd (o := .tup (fam1.map fun x => V.ref (gC x))) s1 (s1.free ht1)
      refine ⟨_, rfl, (by show 9 ≤ sizeLine; decide), fun t2 ht2 => ⟨_, t2, _, _, false, rfl, rfl, fF.exN, rfl, upd_same, paired_own fam2, kitAny_no fam2 z2, _, rfl, iteF ?_⟩⟩
      have q2 := same_upd (o := .tup (fam2.map fun x => V.ref (gC x))) q1 (q1.free ht2)
      refine ⟨_, rfl, (by show 7 ≤ sizeLine; decide), fun t3 ht3 => ⟨_, t3, _, _, false, rfl, rfl, fF.exN, rfl, upd_same, paired_own fam3, kitAny_no fam3 z3, _, rfl, iteF ?_⟩⟩
      have q3 := same_upd (o := .tup (fam3.map fun x => V.ref (gC x))) q2 (q2.free ht3)
      refine ⟨_, rfl, _, _, _, true, rfl, rfl, fF.exN, rfl, .ty "ValueError", fF.vN, true, rfl, iteF ?_⟩
      refine ⟨_, rfl, _, _, _, false, rfl, rfl, fF.exN, rfl, .own _, fF.nu, _, rfl, _, _, _, true, rfl, rfl, fF.exN, rfl, .own _, fF.nn, rfl, ?_⟩
      refine ⟨_, rfl, iteF ?_⟩
      exact ⟨_, rfl, _, _, _, true, rfl, rfl, fF.exN, rfl, .own _, fF.nn, .inr ⟨true, rfl, _, _, rfl, rfl, kQ _ q3⟩⟩
end
end Lh
set_option Elab.async false
set_option linter.all false
set_option maxRecDepth 100000
set_option maxHeartbeats 4000000
/-! Deep comparisons: lists of ints, tuples. -/
namespace Lh
open PySem PySem.Spec PyProof.Rows L2 SX
section
variable {K : PySem.W.Frag} {H : Hp}
theorem dpAll_ints : ∀ xs : List Int, DpAll K H (xs.map V.int) (xs.map PyData.int)
  | [] => .nil
  | x :: l => .cons (.int x) (dpAll_ints l)
theorem dp_ints {a : Addr} {xs : List Int} (h : H a = some (.lst (xs.map V.int))) : Dp K H (.ref a) (.list (xs.map PyData.int)) := .lst (SqL.of h) (dpAll_ints xs)
theorem canLay_ints : ∀ xs : List Int, PyData.canLayAll0 (xs.map PyData.int) = true
  | [] => rfl
  | x :: l => by
    show (PyData.canLay0 (.int x) && PyData.canLayAll0 (l.map PyData.int)) = true
    rw [canLay_ints l]
    rfl
theorem shaped_ints (xs : List Int) : SeqAt.shaped (.list (xs.map PyData.int)) = true := by
  unfold SeqAt.shaped
  have h1 : PyData.canLay0 (.list (xs.map PyData.int)) = true := canLay_ints xs
  have h2 : PyData.depth (.list (xs.map PyData.int)) = 1 := by
    show PyData.depthAll (xs.map PyData.int) + 1 = 1
    rw [depth_ints]
  rw [h1, h2]
  rfl
theorem shaped_pair (z : Int) (xs : List Int) : SeqAt.shaped (.tuple [.int z, .list (xs.map PyData.int)]) = true := by
  unfold SeqAt.shaped
  have h1 : PyData.canLay0 (.tuple [.int z, .list (xs.map PyData.int)]) = true := by
    show (PyData.canLay0 (.int z) && (PyData.canLayAll0 (xs.map PyData.int) && true)) = true
    rw [canLay_ints xs]
    rfl
  have h2 : PyData.depth (.tuple [.int z, .list (xs.map PyData.int)]) = 2 := by
    show max 0 (max (PyData.depthAll (xs.map PyData.int) + 1) 0) + 1 = 2
    rw [depth_ints]
    rfl
  rw [h1, h2]
  rfl
theorem eqv_shaped {d : PyData} (h : SeqAt.shaped d = true) : PyData.eqv d d = true := SeqAt.eqv_refl d (SeqAt.canLay_of_shaped h)
theorem dp_door {a : Addr} {x y : Int} {z : Str} (h : H a = some (.tup [.int x, .int y, .str z])) : Dp K H (.ref a) (.tuple [.int x, .int y, .str z]) := .tup (SqT.of h) (.cons (.int x) (.cons (.int y) (.cons (.str z) .nil)))
theorem shaped_door (x y : Int) {c : List Nat} (hc : ∀ n ∈ c, n < 1114112) : SeqAt.shaped (.tuple [.int x, .int y, .str (S c)]) = true := by
  unfold SeqAt.shaped
  have h0 : PyData.strOk (S c) = true := by
    unfold PyData.strOk
    rw [← Array.all_toList]
    have e : (S c).cps.toList = c := codes c
    rw [e, List.all_eq_true]
    intro n hn
    exact decide_eq_true (hc n hn)
  have h1 : PyData.canLay0 (.tuple [.int x, .int y, .str (S c)]) = true := by
    show (PyData.canLay0 (.int x) && (PyData.canLay0 (.int y) && (PyData.strOk (S c) && true))) = true
    rw [h0]
    rfl
  have h2 : PyData.depth (.tuple [.int x, .int y, .str (S c)]) = 1 := rfl
  rw [h1, h2]
  rfl
end
end Lh
set_option Elab.async false
set_option linter.all false
set_option maxRecDepth 100000
set_option maxHeartbeats 8000000
namespace Lh
open PySem PySem.Spec PyProof.Rows L2 SX SkE
section
variable {P : Program} {w : World} {K : PySem.W.Frag} {mg : Str → Option Value} {base : Heap}
theorem scDR : FnScope ["_law_house_here", "_law_rooms", "_law_doors", "_law_numbers", "_law_spot", "_law_due", "_law_k", "_law_told", "_law_changed"] ["_law_house_here", "_law_rooms", "_law_doors", "_law_numbers"] (defScope (top 69)) := ⟨rfl, rfl, rfl, by decide +kernel, rfl, by decide +kernel, by decide +kernel⟩
def spDR (K : PySem.W.Frag) : Sp := fun vs H Q _ => ∃ (p l nl : Addr) (n : Int) (g : List Nat) (ds : List Door) (refs : List V) (zs : List Int), vs = [.ref p, .int n, .ref l, .ref nl] ∧ HouseAt K H p n g ds ∧ ds.length ≤ 1000 ∧ H l = some (.lst refs) ∧ All2 (IsDoor H) refs ds ∧
  H nl = some (.lst (zs.map V.int)) ∧ (∀ z ∈ zs, Tell z) ∧ ∀ H' : Hp, Same H H' → Q (.bl true) H'
def spFamU (K : PySem.W.Frag) : Sp := spFam K
theorem ok_drt (B : Blt mg) (D : Dfn K mg "_law_doors_right" (top 69)) (c_law_doors_at : Cal P w K mg base CX0 4 "_law_doors_at" ["_law_house_here", "_law_spot"] (spLDA K)) (c_law_family : Cal P w K mg base CX0 4 "_law_family" ["_law_house_here", "_law_door", "_law_spot", "_law_alone"] (spFam K))
    (c_law_integers : Cal P w K mg base CX0 2 "_law_integers" ["_law_actual"] (spIL K)) : Cal P w K mg base CX0 5 "_law_doors_right" ["_law_house_here", "_law_rooms", "_law_doors", "_law_numbers"] (spDR K) := by
  have S' := scDR
  refine D.cal0 scDR (fun vs H Q E h => ?_) (fun _ _ _ _ _ _ us hl => match us, hl with | [_, _, _, _], _ => rfl) (fun f cdv A outer s H vs Q E hr h => ?_)
  · obtain ⟨p, l, nl, n, g, ds, refs, zs, rfl, _⟩ := h
    rfl
  · obtain ⟨p, l, nl, n, g, ds, refs, zs, rfl, ha, hds, hl, a2, hnl, ht, kQ⟩ := h
    have hrl := a2.len
    refine ⟨_, (pss_cons (ps_for PassesOwn.never rfl (pi_list (pv 3)) (pg_name (i := 4) S'.nd rfl (Or.inr rfl))
  (pss_cons (ps_setLc (i := 5) (own := [("_law_k", 6)]) (g := gName 6) (by rfl) S'.nd rfl rfl (sw_true rfl rfl rfl (by decide +kernel)) (pi_range1 rfl B.range (pa_cons (pe_callB call_len_seq (by rfl) B.len PySem.boot_len (pa_cons (pv 2) pa_nil)) pa_nil)) (blkOk_by (N := ["_law_house_here", "_law_rooms", "_law_doors", "_law_numbers", "_law_spot", "_law_due", "_law_k", "_law_told", "_law_changed"]) (sc := defScope (top 69)) (by decide +kernel)) (fun _ _ _ _ _ => (pg_name (i := 6) S'.nd rfl (Or.inl rfl))) (fun _ _ _ _ _ => (pts_one (PW.pt (pw_or (pt_cmpR op_eq (pe_ix (ix_tupK (K := K)) (pe_ix (ix_listK (K := K)) (pv 2) (pv 6) (fun _ _ => rfl)) pe_int (fun _ _ => rfl)) (pv 4) (nomark _)) (pw_or1 (pt_cmpR op_eq (pe_ix (ix_tupK (K := K)) (pe_ix (ix_listK (K := K)) (pv 2) (pv 6) (fun _ _ => rfl)) pe_int (fun _ _ => rfl)) (pv 4) (nomark _))))))) (fun _ _ _ _ _ => (pv 6)))
 (pss_cons (ps_set (i := 7) S'.nd rfl (Or.inl rfl) (pcl c_law_doors_at hr (pa_cons (pv 0) (pa_cons (pv 4) pa_nil))))
 (pss_one (ps_if (PW.pt (pw_or (pt_cmpR op_lt (pv 4) pe_int (nomark _)) (pw_or1 (pt_cmpR op_ge (pv 4) (pv 1) (nomark _))))) (pss_one (ps_if (PW.pt (pw_or (pt_cmpR op_ne (pe_ix ix_tup (pv 7) pe_int (fun _ _ => rfl)) pe_int (nomark _)) (pw_or1 (pt_cmpR op_ne (pcl c_law_family hr (pa_cons (pv 0) (pa_cons pe_int (pa_cons (pv 4) (pa_cons pe_bl pa_nil))))) pe_int (nomark _))))) (pss_one (ps_ret pe_bl)) pss_nil)) (pss_cons (ps_if (PW.pt (pw_or (pt_cmpR op_ne (pe_ix ix_tup (pv 7) pe_int (fun _ _ => rfl)) pe_int (nomark _)) (pw_or (pt_not (pt_val (pcl c_law_integers hr (pa_cons (pe_ix ix_tup (pv 7) pe_int (fun _ _ => rfl)) pa_nil)))) (pw_or1 (pt_cmpR (op_neD hr.units) (pe_ix ix_tup (pv 7) pe_int (fun _ _ => rfl)) (pv 5) (nomark _)))))) (pss_one (ps_ret pe_bl)) pss_nil)
 (pss_cons (ps_set (i := 8) S'.nd rfl (Or.inl rfl) (pe_ix ix_tup (pv 7) pe_int (fun _ _ => rfl)))
 (pss_cons (ps_expr (pe_bm PySem.F.plainAttrs_list PySem.F.slot_list_append PySem.F.type_list_append mt_append (pv 8) (pa_cons pe_int pa_nil)))
 (pss_cons (ps_asg pe_int (pg_sub (pv 8) pe_int set_list))
 (pss_one (ps_if (pt_cmpR (op_neD hr.units) (pcl c_law_doors_at hr (pa_cons (pv 0) (pa_cons (pv 4) pa_nil))) (pe_tup (pa_cons pe_int (pa_cons (pv 5) pa_nil))) (nomark _)) (pss_one (ps_ret pe_bl)) pss_nil)))))))))))
 (pss_one (ps_ret pe_bl))), ?_⟩
    refine ⟨_, rfl, nl, rfl, ⟨_, SqL.of hnl⟩, for_list (xs := zs.map V.int) (fun i σ H' => (∃ x4 x5 x7 x8 : Option V, σ = [some (.ref p), some (.int n), some (.ref l), some (.ref nl), x4, x5, none, x7, x8]) ∧ Same H H') ⟨⟨_, _, _, _, rfl⟩, fun _ _ e => e⟩ ?_ ?_ ?_⟩
    · rintro i σ H' _ ⟨_, s1⟩
      exact SqL.of (s1 _ _ hnl)
    · rintro i x σ H1 hx ⟨⟨x4, x5, x7, x8, rfl⟩, s1⟩
      rw [List.getElem?_map] at hx
      obtain ⟨z, hz, rfl⟩ := Option.map_eq_some_iff.mp hx
      have tz := ht z (List.mem_of_getElem? hz)
      refine ⟨_, rfl, l, _, rfl, .inl (SqL.of (s1 _ _ hl)), _, rfl, by omega, by omega, fun D hD => lc_range (lo := 0) (n := _) (fun i H' => H' = upd H1 D (.lst ((daGo z 0 (ds.take i)).map V.int))) rfl ?_ ?_⟩
      · rintro j H2 hj rfl
        obtain ⟨⟨a, b, c⟩, hd⟩ : ∃ d, ds[j]? = some d := ⟨_, List.getElem?_eq_getElem (by omega)⟩
        obtain ⟨v, hv, q, rfl, hq⟩ := a2.get hd
        have hl1 : upd H1 D (.lst ((daGo z 0 (ds.take j)).map V.int)) l = some (.lst refs) := nk (s1 _ _ hl) hD
        have hq1 : upd H1 D (.lst ((daGo z 0 (ds.take j)).map V.int)) q = some (.tup [.int a, .int b, .str (S c)]) := nk (s1 _ _ hq) hD
        have hnext := daGo_app z (a, b, c) 0 (ds.take j)
        have etk : ds.take (j + 1) = ds.take j ++ [(a, b, c)] := by rw [List.take_add_one, hd]; rfl
        have elen : (ds.take j).length = j := by rw [List.length_take]; omega
        rw [elen, Nat.zero_add, ← etk] at hnext
        have hlen' := daGo_len z 0 (ds.take j)
        have fin : (a = z ∨ b = z) → upd (upd H1 D (.lst ((daGo z 0 (ds.take j)).map V.int))) D (.lst ((daGo z 0 (ds.take j)).map V.int ++ [V.int (0 + (j : Int))])) = upd H1 D (.lst ((daGo z 0 (ds.take (j + 1))).map V.int)) := fun q => by
          rw [upd_upd, hnext, if_pos q, Int.zero_add]
          simp
        have len1 : ((daGo z 0 (ds.take j)).map V.int).length < sizeLine := by
          rw [List.length_map]
          exact small1000 (by omega)
        refine ⟨rfl, ?_⟩
        refine ⟨_, rfl, _, rfl, l, _, _, _, rfl, rfl, SqL.of hl1, at_of (j := j) (by omega) hv, q, _, _, _, rfl, rfl, SqT.of hq1, rfl, _, rfl, rfl, _, rfl, ite2 (fun e => ?_) (fun e => ?_)⟩
        · exact iteT ⟨_, rfl, _, upd_same, len1, fin (.inl (vint e))⟩
        · refine ⟨_, rfl, _, rfl, l, _, _, _, rfl, rfl, SqL.of hl1, at_of (j := j) (by omega) hv, q, _, _, _, rfl, rfl, SqT.of hq1, rfl, _, rfl, rfl, _, rfl, ite2 (fun e2 => ?_) (fun e2 => ?_)⟩
          · exact ⟨_, rfl, _, upd_same, len1, fin (.inr (vint e2))⟩
          · rw [hnext, if_neg (fun q => q.elim (vint_no e) (vint_no e2))]
            simp
      · rintro H2 rfl
        have e0 : ds.take ((refs.length : Int)).toNat = ds := by
          rw [hrl]
          exact List.take_length
        rw [e0]
        have sD := same_upd (o := .lst ((daGo z 0 ds).map V.int)) s1 (s1.free hD)
        have hDD : upd H1 D (.lst ((daGo z 0 ds).map V.int)) D = some (.lst ((doorsAt ds z).map V.int)) := upd_same
        generalize upd H1 D (.lst ((daGo z 0 ds).map V.int)) = HD at sD hDD ⊢
        have dlen : (doorsAt ds z).length ≤ 1000 := Nat.le_trans (daGo_len z 0 ds) hds
        refine ⟨_, rfl, _, rfl, p, n, g, ds, z, rfl, ha.same sD, tz, hds, fun hin H2 t1 l2 s2 ht1 hl2 hl2' ht1' => ?_, fun hout H2 t1 s2 ht1 ht1' => ?_⟩
        · have s2' := sD.trans s2
          refine ⟨_, rfl, _, _, rfl, rfl, _, rfl, ite2 (fun e => absurd (of_decide_eq_true e) (by omega)) (fun _ => ⟨_, rfl, _, rfl, _, _, rfl, rfl, _, rfl, ite2 (fun e => absurd (of_decide_eq_true e) (by omega)) (fun _ => ?_)⟩)⟩
          refine ⟨_, rfl, t1, _, _, _, rfl, rfl, SqT.of ht1', rfl, rfl, _, rfl, ite2 (fun e => absurd e (by simp)) (fun _ => ?_)⟩
          refine ⟨_, rfl, t1, _, _, _, rfl, rfl, SqT.of ht1', rfl, l2, _, rfl, hl2', by omega, fun H3 s3 => ⟨true, rfl, iteF ?_⟩⟩
          refine ⟨_, rfl, t1, _, _, _, rfl, rfl, SqT.of (s3 _ _ ht1'), rfl, _, rfl, _, _, dp_ints (s3 _ _ hl2'), dp_ints (s3 _ _ (s2 _ _ hDD)), shaped_ints _, shaped_ints _, _, rfl, ?_⟩
          rw [eqv_shaped (shaped_ints _)]
          refine iteF ?_
          refine ⟨_, rfl, t1, _, _, _, rfl, rfl, SqT.of (s3 _ _ ht1'), rfl, ?_⟩
          have h2 := s3 _ _ hl2'
          refine ⟨_, rfl, .inl ⟨rfl, _, SqL.of h2⟩, l2, _, _, rfl, rfl, h2, ?_, ?_⟩
          · rw [List.length_map]
            exact small1000 (by omega)
          have s4 : Same HD (upd H3 l2 (.lst ((doorsAt ds z).map V.int ++ [V.int 0]))) := same_upd (s2.trans s3) hl2
          refine ⟨_, rfl, l2, _, _, 0, rfl, rfl, upd_same, ?_, ?_⟩
          · unfold ixN
            simp
          rw [upd_upd]
          have s5 : Same HD (upd H3 l2 (.lst (((doorsAt ds z).map V.int ++ [V.int 0]).set 0 (V.int 5)))) := same_upd (s2.trans s3) hl2
          refine ⟨_, rfl, _, rfl, p, n, g, ds, z, rfl, ha.same (sD.trans s5), tz, hds, fun _ H6 t3 l3 s6 ht3 hl3 hl3' ht3' => ?_, fun hout => absurd hin hout⟩
          refine ⟨_, rfl, (by show 2 ≤ sizeLine; decide), fun t4 ht4 => ?_⟩
          have k1 := nk (o := .tup [V.int 0, V.ref D]) ht3' ht4
          have k2 := nk (o := .tup [V.int 0, V.ref D]) hl3' ht4
          have k3 := nk (o := .tup [V.int 0, V.ref D]) (s6 _ _ (s5 _ _ hDD)) ht4
          refine ⟨_, _, .tup (SqT.of k1) (.cons (.int 0) (.cons (dp_ints k2) .nil)), .tup (SqT.of upd_same) (.cons (.int 0) (.cons (dp_ints k3) .nil)), shaped_pair 0 _, shaped_pair 0 _, _, rfl, ?_⟩
          rw [eqv_shaped (shaped_pair 0 _)]
          have s7 := (sD.trans s5).trans s6
          exact iteF ⟨⟨_, _, _, _, rfl⟩, same_upd s7 (s7.free ht4)⟩
        · have s2' := sD.trans s2
          refine ⟨_, rfl, _, _, rfl, rfl, _, rfl, ite2 (fun _ => ⟨_, rfl, t1, _, _, _, rfl, rfl, SqT.of ht1', rfl, rfl, _, rfl, ite2 (fun e => absurd e (by simp)) (fun _ => ⟨_, rfl, _, rfl, p, n, g, ds, 0, z, true, rfl, ha.same s2', (by show (0 : Int).natAbs.log2 < 1920; decide), tz, hds, .inl ⟨rfl, hout, fun H3 s3 => ⟨rfl, _, rfl, ite2 (fun e => absurd e (by simp)) (fun _ => ⟨⟨_, _, _, _, rfl⟩, s2'.trans s3⟩)⟩⟩⟩)⟩) (fun e => ⟨_, rfl, _, rfl, _, _, rfl, rfl, _, rfl, ite2 (fun _ => ⟨_, rfl, t1, _, _, _, rfl, rfl, SqT.of ht1', rfl, rfl, _, rfl, ite2 (fun e => absurd e (by simp)) (fun _ => ⟨_, rfl, _, rfl, p, n, g, ds, 0, z, true, rfl, ha.same s2', (by show (0 : Int).natAbs.log2 < 1920; decide), tz, hds, .inl ⟨rfl, hout, fun H3 s3 => ⟨rfl, _, rfl, ite2 (fun e => absurd e (by simp)) (fun _ => ⟨⟨_, _, _, _, rfl⟩, s2'.trans s3⟩)⟩⟩⟩)⟩) (fun e2 => absurd (of_decide_eq_false (Bool.eq_false_iff.mpr e)) (fun q => e2 (decide_eq_true (by omega))))⟩)⟩
    · rintro σ H1 ⟨⟨x4, x5, x7, x8, rfl⟩, s1⟩
      exact kQ _ s1
end
end Lh
set_option Elab.async false
set_option linter.all false
set_option maxRecDepth 100000
set_option maxHeartbeats 8000000
namespace Lh
open PySem PySem.Spec PyProof.Rows L2 SX SkE
section
variable {P : Program} {w : World} {K : PySem.W.Frag} {mg : Str → Option Value} {base : Heap}
theorem scER : FnScope ["_law_house_here", "_law_rooms", "_law_doors", "_law_numbers", "_law_spots", "_law_door", "_law_spot", "_law_told", "_law_due", "_law_other"] ["_law_house_here", "_law_rooms", "_law_doors", "_law_numbers", "_law_spots"] (defScope (top 70)) := ⟨rfl, rfl, rfl, by decide +kernel, rfl, by decide +kernel, by decide +kernel⟩
def spER (K : PySem.W.Frag) : Sp := fun vs H Q _ => ∃ (p l nl sl : Addr) (n : Int) (g : List Nat) (ds : List Door) (refs : List V) (zs ys : List Int), vs = [.ref p, .int n, .ref l, .ref nl, .ref sl] ∧ HouseAt K H p n g ds ∧ H l = some (.lst refs) ∧ All2 (IsDoor H) refs ds ∧
  H nl = some (.lst (zs.map V.int)) ∧ H sl = some (.lst (ys.map V.int)) ∧ (∀ z ∈ zs, Tell z) ∧ (∀ z ∈ ys, Tell z) ∧ ∀ H' : Hp, Same H H' → Q (.bl true) H'
abbrev stE (p l nl sl : Addr) (n : Int) (x5 x6 x7 x8 x9 : Option V) : L2.St := [some (.ref p), some (.int n), some (.ref l), some (.ref nl), some (.ref sl), x5, x6, x7, x8, x9]
theorem ok_er (B : Blt mg) (D : Dfn K mg "_law_ends_right" (top 70)) (c_law_other_end : Cal P w K mg base CX0 4 "_law_other_end" ["_law_house_here", "_law_door", "_law_spot"] (spLOE K)) (c_law_is_integer : Cal P w K mg base CX0 1 "_law_is_integer" ["_law_actual"] spII) :
    Cal P w K mg base CX0 5 "_law_ends_right" ["_law_house_here", "_law_rooms", "_law_doors", "_law_numbers", "_law_spots"] (spER K) := by
  have S' := scER
  refine D.cal0 scER (fun vs H Q E h => ?_) (fun _ _ _ _ _ _ us hl => match us, hl with | [_, _, _, _, _], _ => rfl) (fun f cdv A outer s H vs Q E hr h => ?_)
  · obtain ⟨p, l, nl, sl, n, g, ds, refs, zs, ys, rfl, _⟩ := h
    rfl
  · obtain ⟨p, l, nl, sl, n, g, ds, refs, zs, ys, rfl, ha, hl, a2, hnl, hsl, tz, ty, kQ⟩ := h
    have hrl := a2.len
    refine ⟨_, (pss_cons (ps_for PassesOwn.never rfl (pi_list (pv 3)) (pg_name (i := 5) S'.nd rfl (Or.inl rfl))
  (pss_one (ps_for PassesOwn.never rfl (pi_list (pv 4)) (pg_name (i := 6) S'.nd rfl (Or.inl rfl))
  (pss_cons (ps_set (i := 7) S'.nd rfl (Or.inl rfl) (pcl c_law_other_end hr (pa_cons (pv 0) (pa_cons (pv 5) (pa_cons (pv 6) pa_nil)))))
 (pss_cons (ps_set (i := 8) S'.nd rfl (Or.inl rfl) pe_int)
 (C8.pss_cut (ps_if (PW.pt (pw_or (pt_cmpR op_lt (pv 5) pe_int (nomark _)) (pw_or (pt_cmpR op_ge (pv 5) (pe_callB call_len_seq (by rfl) B.len PySem.boot_len (pa_cons (pv 2) pa_nil)) (nomark _)) (pw_or (pt_cmpR op_lt (pv 6) pe_int (nomark _)) (pw_or1 (pt_cmpR op_ge (pv 6) (pv 1) (nomark _))))))) (pss_one (ps_set (i := 8) S'.nd rfl (Or.inl rfl) pe_int)) (pss_one (ps_if (PW.pt (pw_and (pt_cmpR op_ne (pv 6) (pe_ix ix_tup (pe_ix ix_list (pv 2) (pv 5) (fun _ _ => rfl)) pe_int (fun _ _ => rfl)) (nomark _)) (pw_and1 (pt_cmpR op_ne (pv 6) (pe_ix ix_tup (pe_ix ix_list (pv 2) (pv 5) (fun _ _ => rfl)) pe_int (fun _ _ => rfl)) (nomark _))))) (pss_one (ps_set (i := 8) S'.nd rfl (Or.inl rfl) pe_int)) pss_nil)))
 (pss_cons (ps_if (pt_cmpR op_ne (pe_ix ix_tup (pv 7) pe_int (fun _ _ => rfl)) (pv 8) (nomark _)) (pss_one (ps_ret pe_bl)) pss_nil)
 (pss_one (ps_if (pt_cmpR op_eq (pv 8) pe_int (nomark _)) (pss_cons (ps_set (i := 9) S'.nd rfl (Or.inl rfl) (pe_ix ix_tup (pe_ix ix_list (pv 2) (pv 5) (fun _ _ => rfl)) pe_int (fun _ _ => rfl)))
 (C8.pss_cut (ps_if (pt_cmpR op_eq (pv 9) (pv 6) (nomark _)) (pss_one (ps_set (i := 9) S'.nd rfl (Or.inl rfl) (pe_ix ix_tup (pe_ix ix_list (pv 2) (pv 5) (fun _ _ => rfl)) pe_int (fun _ _ => rfl)))) pss_nil)
 (pss_one (ps_if (PW.pt (pw_or (pt_not (pt_val (pcl c_law_is_integer hr (pa_cons (pe_ix ix_tup (pv 7) pe_int (fun _ _ => rfl)) pa_nil)))) (pw_or1 (pt_cmpR op_ne (pe_ix ix_tup (pv 7) pe_int (fun _ _ => rfl)) (pv 9) (nomark _))))) (pss_one (ps_ret pe_bl)) pss_nil)))) pss_nil)))))))))
 (pss_one (ps_ret pe_bl))), ?_⟩
    refine ⟨_, rfl, nl, rfl, ⟨_, SqL.of hnl⟩, for_list (xs := zs.map V.int) (fun i σ H' => (∃ x5 x6 x7 x8 x9 : Option V, σ = stE p l nl sl n x5 x6 x7 x8 x9) ∧ Same H H') ⟨⟨_, _, _, _, _, rfl⟩, fun _ _ e => e⟩ ?_ ?_ ?_⟩
    · rintro i σ H' _ ⟨_, s1⟩
      exact SqL.of (s1 _ _ hnl)
    · rintro i x σ H1 hx ⟨⟨x5, x6, x7, x8, x9, rfl⟩, s1⟩
      rw [List.getElem?_map] at hx
      obtain ⟨d, hd, rfl⟩ := Option.map_eq_some_iff.mp hx
      have td := tz d (List.mem_of_getElem? hd)
      refine ⟨_, rfl, sl, rfl, ⟨_, SqL.of (s1 _ _ hsl)⟩, for_list (xs := ys.map V.int) (fun i σ H' => (∃ x6 x7 x8 x9 : Option V, σ = stE p l nl sl n (some (.int d)) x6 x7 x8 x9) ∧ Same H H') ⟨⟨_, _, _, _, rfl⟩, s1⟩ ?_ ?_ ?_⟩
      · rintro i σ H' _ ⟨_, s1⟩
        exact SqL.of (s1 _ _ hsl)
      · rintro j x σ H2 hx ⟨⟨x6, x7, x8, x9, rfl⟩, s2⟩
        rw [List.getElem?_map] at hx
        obtain ⟨r, hr', rfl⟩ := Option.map_eq_some_iff.mp hx
        have tr := ty r (List.mem_of_getElem? hr')
        refine ⟨_, rfl, _, rfl, _, rfl, p, n, g, ds, d, r, rfl, ha.same s2, td, tr, fun hout H3 t s3 ht ht' => ?_, fun h0 hin a b c e => ⟨fun hne H3 t s3 ht ht' => ?_, fun heq H3 t s3 ht ht' => ?_⟩⟩
        · have s4 := s2.trans s3
          refine ⟨fun σ H' => σ = stE p l nl sl n (some (.int d)) (some (.int r)) (some (.ref t)) (some (.int 1)) x9 ∧ H' = H3, ?_, ?_⟩
          · refine ⟨_, rfl, _, _, rfl, rfl, _, rfl, ite2 (fun _ => ⟨rfl, rfl⟩) (fun e1 => ⟨_, rfl, _, rfl, l, _, rfl, .inl (SqL.of (s4 _ _ hl)), _, _, rfl, rfl, _, rfl, ite2 (fun _ => ⟨rfl, rfl⟩) (fun e2 => ⟨_, rfl, _, _, rfl, rfl, _, rfl, ite2 (fun _ => ⟨rfl, rfl⟩) (fun e3 => ⟨_, rfl, _, rfl, _, _, rfl, rfl, _, rfl, ite2 (fun _ => ⟨rfl, rfl⟩) (fun e4 => ?_)⟩)⟩)⟩)⟩
            have f1 : ¬ d < 0 := fun q => e1 (decide_eq_true q)
            have f2 : ¬ (refs.length : Int) ≤ d := fun q => e2 (decide_eq_true q)
            have f3 : ¬ r < 0 := fun q => e3 (decide_eq_true q)
            have f4 : ¬ n ≤ r := fun q => e4 (decide_eq_true q)
            exact absurd ⟨⟨by omega, by omega⟩, by omega, by omega⟩ hout
          · rintro σ H4 ⟨rfl, rfl⟩
            refine ⟨_, rfl, t, _, _, _, rfl, rfl, SqT.of ht', rfl, _, rfl, rfl, _, rfl, ite2 (fun e => absurd e (by simp)) (fun _ => ?_)⟩
            exact ⟨_, rfl, rfl, _, rfl, ite2 (fun e => absurd (vint e) (by decide)) (fun _ => ⟨⟨_, _, _, _, rfl⟩, s4⟩)⟩
        · have s4 := s2.trans s3
          have hdl : d < ds.length := by have := (List.getElem?_eq_some_iff.mp e).1; omega
          obtain ⟨v, hv, q, rfl, hq⟩ := a2.get e
          refine ⟨fun σ H' => σ = stE p l nl sl n (some (.int d)) (some (.int r)) (some (.ref t)) (some (.int 2)) x9 ∧ H' = H3, ?_, ?_⟩
          · refine ⟨_, rfl, _, _, rfl, rfl, _, rfl, ite2 (fun e => absurd (of_decide_eq_true e) (by omega)) (fun _ => ⟨_, rfl, _, rfl, l, _, rfl, .inl (SqL.of (s4 _ _ hl)), _, _, rfl, rfl, _, rfl, ite2 (fun e => absurd (of_decide_eq_true e) (by omega)) (fun _ => ⟨_, rfl, _, _, rfl, rfl, _, rfl, ite2 (fun e => absurd (of_decide_eq_true e) (by omega)) (fun _ => ⟨_, rfl, _, rfl, _, _, rfl, rfl, _, rfl, ite2 (fun e => absurd (of_decide_eq_true e) (by omega)) (fun _ => ?_)⟩)⟩)⟩)⟩
            refine ⟨_, rfl, _, rfl, _, rfl, l, _, _, _, rfl, rfl, SqL.of (s4 _ _ hl), at_of (j := d.toNat) (by omega) hv, q, _, _, _, rfl, rfl, SqT.of (s4 _ _ hq), rfl, rfl, _, rfl, ite2 (fun _ => ⟨_, rfl, _, rfl, _, rfl, l, _, _, _, rfl, rfl, SqL.of (s4 _ _ hl), at_of (j := d.toNat) (by omega) hv, q, _, _, _, rfl, rfl, SqT.of (s4 _ _ hq), rfl, rfl, _, rfl, ite2 (fun _ => ⟨rfl, rfl⟩) (fun e2 => ?_)⟩) (fun e2 => ?_)⟩
            · exact absurd (by simpa using hne.2) e2
            · exact absurd (by simpa using hne.1) e2
          · rintro σ H4 ⟨rfl, rfl⟩
            refine ⟨_, rfl, t, _, _, _, rfl, rfl, SqT.of ht', rfl, _, rfl, rfl, _, rfl, ite2 (fun e => absurd e (by simp)) (fun _ => ?_)⟩
            exact ⟨_, rfl, rfl, _, rfl, ite2 (fun e => absurd (vint e) (by decide)) (fun _ => ⟨⟨_, _, _, _, rfl⟩, s4⟩)⟩
        · have s4 := s2.trans s3
          have hdl : d < ds.length := by have := (List.getElem?_eq_some_iff.mp e).1; omega
          obtain ⟨v, hv, q, rfl, hq⟩ := a2.get e
          refine ⟨fun σ H' => σ = stE p l nl sl n (some (.int d)) (some (.int r)) (some (.ref t)) (some (.int 0)) x9 ∧ H' = H3, ?_, ?_⟩
          · refine ⟨_, rfl, _, _, rfl, rfl, _, rfl, ite2 (fun e => absurd (of_decide_eq_true e) (by omega)) (fun _ => ⟨_, rfl, _, rfl, l, _, rfl, .inl (SqL.of (s4 _ _ hl)), _, _, rfl, rfl, _, rfl, ite2 (fun e => absurd (of_decide_eq_true e) (by omega)) (fun _ => ⟨_, rfl, _, _, rfl, rfl, _, rfl, ite2 (fun e => absurd (of_decide_eq_true e) (by omega)) (fun _ => ⟨_, rfl, _, rfl, _, _, rfl, rfl, _, rfl, ite2 (fun e => absurd (of_decide_eq_true e) (by omega)) (fun _ => ?_)⟩)⟩)⟩)⟩
            refine ⟨_, rfl, _, rfl, _, rfl, l, _, _, _, rfl, rfl, SqL.of (s4 _ _ hl), at_of (j := d.toNat) (by omega) hv, q, _, _, _, rfl, rfl, SqT.of (s4 _ _ hq), rfl, rfl, _, rfl, ite2 (fun e1 => ⟨_, rfl, _, rfl, _, rfl, l, _, _, _, rfl, rfl, SqL.of (s4 _ _ hl), at_of (j := d.toNat) (by omega) hv, q, _, _, _, rfl, rfl, SqT.of (s4 _ _ hq), rfl, rfl, _, rfl, ite2 (fun e2 => ?_) (fun _ => ⟨rfl, rfl⟩)⟩) (fun _ => ⟨rfl, rfl⟩)⟩
            have f1 : r ≠ a := by simpa using e1
            have f2 : r ≠ b := by simpa using e2
            exact absurd heq (fun z => z.elim f1 f2)
          · rintro σ H4 ⟨rfl, rfl⟩
            refine ⟨_, rfl, t, _, _, _, rfl, rfl, SqT.of ht', rfl, _, rfl, rfl, _, rfl, ite2 (fun e => absurd e (by simp)) (fun _ => ?_)⟩
            refine ⟨_, rfl, rfl, _, rfl, ite2 (fun _ => ?_) (fun e => absurd rfl (vint_no e))⟩
            refine ⟨_, rfl, _, rfl, l, _, _, _, rfl, rfl, SqL.of (s4 _ _ hl), at_of (j := d.toNat) (by omega) hv, q, _, _, _, rfl, rfl, SqT.of (s4 _ _ hq), rfl, ?_⟩
            refine ⟨fun σ H' => σ = stE p l nl sl n (some (.int d)) (some (.int r)) (some (.ref t)) (some (.int 0)) (some (.int (if r = a then b else a))) ∧ H' = H4, ?_, ?_⟩
            · refine ⟨_, rfl, _, rfl, rfl, _, rfl, ite2 (fun e1 => ⟨_, rfl, _, rfl, l, _, _, _, rfl, rfl, SqL.of (s4 _ _ hl), at_of (j := d.toNat) (by omega) hv, q, _, _, _, rfl, rfl, SqT.of (s4 _ _ hq), rfl, ?_, rfl⟩) (fun e1 => ⟨?_, rfl⟩)⟩
              · rw [if_pos (vint e1).symm]
                rfl
              · rw [if_neg (fun q => vint_no e1 q.symm)]
                rfl
            · rintro σ H5 ⟨rfl, rfl⟩
              exact ⟨_, rfl, t, _, _, _, rfl, rfl, SqT.of ht', rfl, _, rfl, true, rfl, iteF ⟨_, rfl, t, _, _, _, rfl, rfl, SqT.of ht', rfl, _, rfl, rfl, _, rfl, ite2 (fun e => absurd e (by simp)) (fun _ => ⟨⟨_, _, _, _, rfl⟩, s4⟩)⟩⟩
      · rintro σ H2 ⟨⟨x6, x7, x8, x9, rfl⟩, s2⟩
        exact ⟨⟨_, _, _, _, _, rfl⟩, s2⟩
    · rintro σ H1 ⟨_, s1⟩
      exact kQ _ s1
end
end Lh
set_option Elab.async false
set_option linter.all false
set_option maxRecDepth 100000
set_option maxHeartbeats 4000000
/-! str.replace of written texts, behind a statement x = e[k]; what 'BB' -> 'BR' does to the letters. -/
namespace Lh
open PySem PySem.Spec PyProof.Rows L2
section
variable {X : Cx} {rest : List Stmt} {st : Stmt} {t u : TS}
/-- x = a[k], k written: behind it a token is out -/
theorem pss_ixG {i : Nat} {x : Str} {a : Expr} {ta : TE} {r : R2} {k : Int} {j : Nat} {cp p2 pos' pos : Pos} (hN : X.N.Nodup) (hi : X.N[i]? = some x) (hx : Loc X.env.scope x) (hr : IxR X r) (ha : PE X a ta) (h2 : PSsT X rest u) (hsx : PlainIx (.Constant (.int k) j cp))
    (hs : swapsWith (.Subscript a (.Constant (.int k) j cp) p2) (some (.Name x pos')) pos.line X.env = pure false := by rfl) (hf : X.fn x = true ∨ X.env.scope.names.lookup x = some .local := by first | exact .inl rfl | exact .inr rfl | assumption) :
    PSs X (.Assign [.Name x pos'] (.Subscript a (.Constant (.int k) j cp) p2) pos :: rest) (tSeq (tAsg (tOp r ta (tC (.int k))) (gName i)) u) := by
  refine ⟨fun pins s σ H D I h => ?_⟩
  refine wpAny_execs_cons (wpAny_Assign_Name (Subscript_ (thn (ha.run pins s σ H _ I h) fun v s1 ⟨y, H1, I1, r1, q1⟩ => wpAny_Constant_int ?_)) hs)
  refine wpAny_mono (PySem.wpAny_toks (hr a (.Constant (.int k) j cp) pins { s1 with toks := s1.toks + 1 } σ H1 y (.int k) v (.int k s1.toks) _ (I1.tok _) r1 ⟨_, rfl⟩ q1 (hsx _ _))) (fun w s2 q => ?_) fun _ _ z => z.2
  obtain ⟨hk, z, H2, I2, r2, q2⟩ := q
  have hk1 : s1.toks + 1 ≤ s2.toks := hk
  refine wpAny_mono (PySem.wpAny_toks (store_ok (Q := fun _ s3 => Inv X pins (σ.set i (some z)) H2 s3) I2 hN hi hx r2 (fun _ I3 => I3) hf)) (fun _ s3 q3 => ?_) fun _ _ z => z.2
  have hk2 : s2.toks ≤ s3.toks := q3.1
  exact h2 pins s3 _ H2 D (by omega) q3.2 q2
theorem psst_cut (h1 : PST X st t) (h2 : PSsT X rest u) : PSsT X (st :: rest) (C8.tCut t u) := by
  intro pins s σ H D h0 I h
  obtain ⟨Mid, hm, hu⟩ := h
  refine wpAny_execs_cons (wpAny_mono (PySem.wpAny_toks (h1 pins s σ H { D with nx := Mid } h0 I hm)) (fun f s1 q => ?_) fun _ _ z => z.2)
  obtain ⟨hk, q⟩ := q
  cases f with
  | next =>
    obtain ⟨σ', H', I', q⟩ := q
    exact h2 pins s1 σ' H' D (Nat.le_trans h0 hk) I' (hu σ' H' q)
  | ret v => exact q
  | brk => exact q
  | cont => exact q
theorem pst_set {i : Nat} {x : Str} {e : Expr} {te : TE} {pos pos' : Pos} (hN : X.N.Nodup) (hi : X.N[i]? = some x) (hx : Loc X.env.scope x) (he : PET X e te) (hs : swapsWith e (some (.Name x pos')) pos.line X.env = pure false := by rfl)
    (hf : X.fn x = true ∨ X.env.scope.names.lookup x = some .local := by first | exact .inl rfl | exact .inr rfl | assumption) : PST X (.Assign [.Name x pos'] e pos) (tAsg te (gName i)) := by
  intro pins s σ H D h0 I h
  refine wpAny_Assign_Name (thn (he pins s σ H _ h0 I h) fun v s1 ⟨y, H1, I1, r1, q1⟩ => ?_) hs
  exact store_ok I1 hN hi hx r1 (fun s2 I2 => ⟨_, H1, I2, q1⟩) hf
end
open SX in
theorem repl_ok : ∀ (n : Nat) (l : List Nat), l.length ≤ n → (PySem.StrLaws.replL [66, 66] [66, 82] l).length = l.length ∧ (∀ x ∈ PySem.StrLaws.replL [66, 66] [66, 82] l, x = 82 ∨ x ∈ l) ∧ (82 ∈ l → 82 ∈ PySem.StrLaws.replL [66, 66] [66, 82] l) ∧ (66 ∈ l → 66 ∈ PySem.StrLaws.replL [66, 66] [66, 82] l) := by
  intro n
  induction n with
  | zero =>
    intro l h
    have e : l = [] := List.length_eq_zero_iff.mp (by omega)
    subst e
    rw [PySem.StrLaws.replL_nil]
    simp
  | succ n ih =>
    intro l h
    cases l with
    | nil =>
      rw [PySem.StrLaws.replL_nil]
      simp
    | cons c r =>
      by_cases q : (c :: r).take ([66, 66] : List Nat).length = [66, 66]
      · rw [PySem.StrLaws.replL_hit (by simp) q]
        cases r with
        | nil => simp at q
        | cons d r =>
          simp at q
          obtain ⟨rfl, rfl⟩ := q
          obtain ⟨h1, h2, h3, h4⟩ := ih r (by simp at h; omega)
          have e : ([66, 66] : List Nat).length = 2 := rfl
          rw [e]
          show ([66, 82] ++ PySem.StrLaws.replL [66, 66] [66, 82] r).length = (66 :: 66 :: r).length ∧ _
          refine ⟨by simp [h1], fun x hx => ?_, fun _ => by simp, fun _ => by simp⟩
          rcases List.mem_append.mp hx with hx | hx
          · simp at hx
            rcases hx with rfl | rfl <;> simp
          · rcases h2 x hx with rfl | hx
            · exact .inl rfl
            · exact .inr (by simp [hx])
      · rw [PySem.StrLaws.replL_miss q]
        obtain ⟨h1, h2, h3, h4⟩ := ih r (by simp at h; omega)
        refine ⟨by simp [h1], fun x hx => ?_, fun hx => ?_, fun hx => ?_⟩
        · rcases List.mem_cons.mp hx with rfl | hx
          · exact .inr (by simp)
          · rcases h2 x hx with rfl | hx
            · exact .inl rfl
            · exact .inr (by simp [hx])
        · rcases List.mem_cons.mp hx with rfl | hx
          · simp
          · exact List.mem_cons_of_mem _ (h3 hx)
        · rcases List.mem_cons.mp hx with rfl | hx
          · simp
          · exact List.mem_cons_of_mem _ (h4 hx)
section
open SX
def replC (c : List Nat) : List Nat := PySem.StrLaws.replL [66, 66] [66, 82] c
theorem repl_S (c : List Nat) : Txt.replace (S c) (Str.ofString "BB") (Str.ofString "BR") = S (replC c) := by
  have e1 : Str.ofString "BB" = S [66, 66] := by decide +kernel
  have e2 : Str.ofString "BR" = S [66, 82] := by decide +kernel
  rw [e1, e2]
  have h := PySem.StrLaws.replace_list (x := S c) (y := S [66, 66]) (z := S [66, 82]) (by decide)
  rw [codes, codes, codes] at h
  have h2 : (Txt.replace (S c) (S [66, 66]) (S [66, 82])).cps = (replC c).toArray := Array.toList_inj.mp (by rw [h]; rfl)
  calc Txt.replace (S c) (S [66, 66]) (S [66, 82]) = ⟨(Txt.replace (S c) (S [66, 66]) (S [66, 82])).cps⟩ := rfl
    _ = S (replC c) := by rw [h2]
theorem replC_ok {c : List Nat} (h : CycOk [82, 66] c) : CycOk [82, 66] (replC c) ∧ (replC c).length = c.length := by
  obtain ⟨h1, h2, h3, h4⟩ := repl_ok c.length c (Nat.le_refl _)
  refine ⟨⟨fun x hx => ?_, fun x hx => ?_⟩, h1⟩
  · rcases h2 x hx with rfl | hx
    · simp
    · exact h.1 x hx
  · simp at hx
    rcases hx with rfl | rfl
    · exact h3 (h.2 82 (by simp))
    · exact h4 (h.2 66 (by simp))
theorem cyc_more {g c : List Nat} {x y : Nat} (h : CycOk g c) (hx : x ∈ g) (hy : y ∈ g) : CycOk g (c ++ [x] ++ [y]) := by
  refine ⟨fun z hz => ?_, fun z hz => ?_⟩
  · simp at hz
    rcases hz with hz | rfl | rfl
    · exact h.1 z hz
    · exact hx
    · exact hy
  · have := h.2 z hz
    simp [this]
theorem cyc_front {g c : List Nat} {x : Nat} (h : CycOk g c) (hx : x ∈ g) : CycOk g ([x] ++ c) := by
  refine ⟨fun z hz => ?_, fun z hz => ?_⟩
  · simp at hz
    rcases hz with rfl | hz
    · exact hx
    · exact h.1 z hz
  · have := h.2 z hz
    simp [this]
theorem cyc_last {c : List Nat} (h : CycOk [82, 66] c) (h0 : c[0]? = some 66) : CycOk [82, 66] (c.dropLast ++ [82]) := by
  refine ⟨fun z hz => ?_, fun z hz => ?_⟩
  · simp only [List.mem_append, List.mem_singleton] at hz
    rcases hz with hz | rfl
    · exact h.1 z (List.dropLast_subset c hz)
    · simp
  · simp at hz
    rcases hz with rfl | rfl
    · simp
    · cases c with
      | nil => simp at h0
      | cons a r =>
        simp at h0
        subst h0
        cases r with
        | nil =>
          have := h.2 82 (by simp)
          simp at this
        | cons b r => simp
theorem cut_last {c : List Nat} : cutS (S c) none (some (-1)) = S c.dropLast := by
  unfold cutS
  have e : HT.sIx (S c).length (S c).length (some (-1)) = c.length - 1 := by
    rw [S_len]
    unfold HT.sIx
    show (if (-1 : Int) < 0 then ((-1 : Int) + (c.length : Int)).toNat else _) = _
    rw [if_pos (by decide)]
    omega
  rw [HT.sIx_none, e, codes, List.drop_zero, Nat.sub_zero, List.dropLast_eq_take]
end
end Lh
set_option Elab.async false
set_option linter.all false
set_option maxRecDepth 100000
set_option maxHeartbeats 4000000
namespace Lh
open PySem PySem.Spec PyProof.Rows L2
section
variable {P : Program} {w : World} {K : PySem.W.Frag} {mg : Str → Option Value} {base : Heap}
theorem scRow : FnScope ["_law_cell_here", "_law_sizes", "_law_row_here", "_law_rest", "_law_k", "_law_mixed"] ["_law_cell_here", "_law_sizes"] (defScope (top 54)) := ⟨rfl, rfl, rfl, by decide +kernel, rfl, by decide +kernel, by decide +kernel⟩
/-- _law_row(cell, sizes): a new list of draws below the sizes -/
def spRow (K : PySem.W.Frag) : Sp := fun vs H Q _ => ∃ (c : Int) (b : Addr) (ns : List Int), vs = [.int c, .ref b] ∧ SqL K H b (ns.map V.int) ∧ ns.length ≤ 1000 ∧ (∀ n ∈ ns, 0 < n ∧ n ≤ 1000000) ∧
  ∀ (row : List Int) (H' : Hp) (p : Addr), RowOk row ns → Same H H' → H p = none → H' p = some (.lst (row.map V.int)) → Q (.ref p) H'
def invRow (H : Hp) (c : Int) (b l : Addr) (ns : List Int) (i : Nat) (σ : L2.St) (H' : Hp) : Prop :=
  ∃ (row : List Int) (rest : Int) (vk vm : Option V), σ = [some (.int c), some (.ref b), some (.ref l), some (.int rest), vk, vm] ∧ Same H H' ∧ H' l = some (.lst (row.map V.int)) ∧ RowOk row (ns.take i)
theorem invRow_more {H H' : Hp} {c : Int} {b l : Addr} {ns row : List Int} {i : Nat} {n : Int} (s1 : Same H H') (hl0 : H l = none) (rok : RowOk row (ns.take i)) (hni : ns[i]? = some n) (z rest : Int) (vk vm : Option V) (h0 : 0 ≤ z) (h1 : z < n) :
    invRow H c b l ns (i + 1) [some (.int c), some (.ref b), some (.ref l), some (.int rest), vk, vm] (upd H' l (.lst (row.map V.int ++ [.int z]))) :=
  ⟨row ++ [z], rest, vk, vm, rfl, same_upd s1 hl0, by rw [upd_same, List.map_append]; rfl, rok.more hni h0 h1⟩
theorem ok_row (B : Blt mg) (D : Dfn K mg "_law_row" (top 54)) : Cal P w K mg base CX0 1 "_law_row" ["_law_cell_here", "_law_sizes"] (spRow K) := by
  have S := scRow
  refine D.cal0 scRow (fun vs H Q E h => ?_) (fun _ _ _ _ _ _ us hl => match us, hl with | [_, _], _ => rfl) (fun f cdv A outer s H vs Q E hr h => ?_)
  · obtain ⟨c, b, ns, rfl, _⟩ := h
    rfl
  · obtain ⟨c, b, ns, rfl, hS, hl, hn, kQ⟩ := h
    refine ⟨_, (pss_cons (ps_set (i := 2) S.nd rfl (Or.inl rfl) (pe_lst pa_nil))
 (pss_cons (ps_set (i := 3) S.nd rfl (Or.inl rfl) (pe_op op_sub (pv 0) (pe_op op_pow pe_int pe_int)))
 (pss_cons (ps_for PassesOwn.never rfl (pi_range1 rfl B.range (pa_cons (pe_callB call_len_seq (by rfl) B.len PySem.boot_len (pa_cons (pv 1) pa_nil)) pa_nil)) (pg_name (i := 4) S.nd rfl (Or.inl rfl))
  (pss_one (ps_if (pt_cmpR op_ge (pv 0) (pe_op op_pow pe_int pe_int) (nomark _)) (pss_cons (ps_expr (pe_bm PySem.F.plainAttrs_list PySem.F.slot_list_append PySem.F.type_list_append mt_append (pv 2) (pa_cons (pe_op op_mod (pe_callTy call_int1 (by rfl) B.int (by decide +kernel) (pa_cons (pv 3) pa_nil)) (pe_ix ix_list (pv 1) (pv 4) (fun _ _ => rfl))) pa_nil)))
 (pss_one (ps_set (i := 3) S.nd rfl (Or.inl rfl) (pe_op op_fdiv (pv 3) (pe_ix ix_list (pv 1) (pv 4) (fun _ _ => rfl)))))) (pss_cons (ps_set (i := 5) S.nd rfl (Or.inl rfl) (pe_op op_mod (pe_callTy call_int1 (by rfl) B.int (by decide +kernel) (pa_cons (pe_op op_add (pe_op op_add (pv 0) (pe_op op_mul pe_int (pv 4))) pe_int) pa_nil)) pe_int))
 (pss_cons (ps_set (i := 5) S.nd rfl (Or.inl rfl) (pe_op op_mod (pe_callTy call_int1 (by rfl) B.int (by decide +kernel) (pa_cons (pe_op op_mul (pv 5) (pe_op op_add (pv 5) pe_int)) pa_nil)) pe_int))
 (pss_cons (ps_set (i := 5) S.nd rfl (Or.inl rfl) (pe_op op_mod (pe_callTy call_int1 (by rfl) B.int (by decide +kernel) (pa_cons (pe_op op_add (pe_op op_mul (pv 5) (pe_op op_add (pv 5) pe_int)) (pe_op op_mul pe_int (pv 4))) pa_nil)) pe_int))
 (pss_one (ps_expr (pe_bm PySem.F.plainAttrs_list PySem.F.slot_list_append PySem.F.type_list_append mt_append (pv 2) (pa_cons (pe_op op_mod (pe_callTy call_int1 (by rfl) B.int (by decide +kernel) (pa_cons (pe_op op_fdiv (pv 5) pe_int) pa_nil)) (pe_ix ix_list (pv 1) (pv 4) (fun _ _ => rfl))) pa_nil))))))))))
 (pss_one (ps_ret (pv 2)))))), ?_⟩
    refine ⟨Nat.zero_le _, fun l hl0 => ?_⟩
    refine ⟨_, rfl, _, _, rfl, rfl, ⟨by decide, by decide, by decide⟩, _, _, rfl, rfl, ?_⟩
    have s0 : Same H (upd H l (.lst [])) := same_new hl0
    refine ⟨_, rfl, b, _, rfl, .inl (s0.seq hS), _, rfl, by omega, by simp; omega, for_range (lo := 0) (n := _)
      (invRow H c b l ns)
      ⟨[], _, none, none, rfl, s0, upd_same, RowOk.nil⟩ ?_ ?_⟩
    · rintro i σ H' hi ⟨row, rest, vk, vm, rfl, s1, hL, rok⟩
      have hi' : i < ns.length := by simpa using hi
      have hni : ns[i]? = some ns[i] := List.getElem?_eq_getElem _
      obtain ⟨hn0, hn1⟩ := hn _ (List.getElem_mem hi')
      have hlen : (row.map V.int).length < sizeLine := by
        have := rok.1
        rw [List.length_map, this, List.length_take]
        exact small1000 (by omega)
      have hk : atI (ns.map V.int) (0 + (i : Int)) = some (.int ns[i]) := at_of (Int.zero_add _) (map_get hni)
      refine ⟨_, rfl, _, _, rfl, rfl, ⟨by decide, by decide, by decide⟩, _, _, rfl, rfl, _, rfl, ite2 (fun _ => ?_) (fun _ => ?_)⟩
      · refine ⟨_, rfl, .inl ⟨rfl, _, SqL.of hL⟩, _, rfl, .inl ⟨_, rfl, _, rfl, _, rfl, b, _, _, _, rfl, rfl, s1.seq hS, hk, _, _, rfl, rfl, hn0, l, _, _, rfl, rfl, hL, hlen, ?_⟩⟩
        refine ⟨_, rfl, _, rfl, _, rfl, b, _, _, _, rfl, rfl, (same_upd s1 hl0).seq hS, hk, _, _, rfl, rfl, ⟨hn0, by omega⟩, ?_⟩
        exact invRow_more s1 hl0 rok hni _ _ _ _ (Int.emod_nonneg _ (by omega)) (Int.emod_lt_of_pos _ hn0)
      · -- mixed, three times
        refine ⟨_, rfl, _, rfl, _, _, rfl, rfl, .inl ⟨by decide, by decide⟩, _, _, rfl, rfl, _, _, rfl, rfl, .inl ⟨_, rfl, _, _, rfl, rfl, (by show (0 : Int) < _; decide), ?_⟩⟩
        generalize hm1 : (c + 7919 * (0 + (i : Int)) + 13) % 2147483647 = m1
        have m1a : 0 ≤ m1 ∧ m1 < 2147483647 := by omega
        refine ⟨_, rfl, _, rfl, _, _, rfl, rfl, _, _, rfl, rfl, .inl ⟨by omega, by omega⟩, .inl ⟨_, rfl, _, _, rfl, rfl, (by show (0 : Int) < _; decide), ?_⟩⟩
        generalize hm2 : (m1 * (m1 + 48271)) % 2147483629 = m2
        have m2a : 0 ≤ m2 ∧ m2 < 2147483629 := ⟨by rw [← hm2]; exact Int.emod_nonneg _ (by decide), by rw [← hm2]; exact Int.emod_lt_of_pos _ (by decide)⟩
        refine ⟨_, rfl, _, rfl, _, _, rfl, rfl, _, _, rfl, rfl, .inl ⟨by omega, by omega⟩, _, rfl, _, _, rfl, rfl, .inl ⟨by decide, by decide⟩, _, _, rfl, rfl, .inl ⟨_, rfl, _, _, rfl, rfl, (by show (0 : Int) < _; decide), ?_⟩⟩
        refine ⟨_, rfl, .inl ⟨rfl, _, SqL.of hL⟩, _, rfl, _, _, rfl, rfl, ⟨by decide, by decide⟩, .inl ⟨_, rfl, _, rfl, _, rfl, b, _, _, _, rfl, rfl, s1.seq hS, hk, _, _, rfl, rfl, hn0, l, _, _, rfl, rfl, hL, hlen, ?_⟩⟩
        exact invRow_more s1 hl0 rok hni _ _ _ _ (Int.emod_nonneg _ (by omega)) (Int.emod_lt_of_pos _ hn0)
    · rintro σ H' ⟨row, rest, vk, vm, rfl, s1, hL, rok⟩
      refine ⟨_, rfl, ?_⟩
      refine kQ row H' l ?_ s1 hl0 hL
      simpa [List.take_of_length_le] using rok
end
end Lh
set_option Elab.async false
set_option linter.all false
set_option maxRecDepth 100000
set_option maxHeartbeats 4000000
namespace Lh
open PySem PySem.Spec PyProof.Rows L2 SX
section
variable {P : Program} {w : World} {K : PySem.W.Frag} {mg : Str → Option Value} {base : Heap}
theorem scAny : FnScope ["_law_row_here", "_law_at", "_law_longest", "_law_size", "_law_letters", "_law_k"] ["_law_row_here", "_law_at", "_law_longest"] (defScope (top 56)) := ⟨rfl, rfl, rfl, by decide +kernel, rfl, by decide +kernel, by decide +kernel⟩
/-- _law_any_cycle(row, at, longest), _law_odd_cycle: a cycle of R and B -/
def spCyc (K : PySem.W.Frag) : Sp := fun vs H Q _ => ∃ (r : Addr) (row : List Int) (a m : Int), vs = [.ref r, .int a, .int m] ∧ SqL K H r (row.map V.int) ∧ 0 ≤ a ∧ a + m < row.length ∧ 2 ≤ m ∧ m ≤ 20 ∧
  ∀ (l : List Nat) (H' : Hp), CycOk [82, 66] l → (l.length : Int) ≤ m → Same H H' → Q (.str (S l)) H'
/-- letters R, B grow in slot 4 -/
def invLet (a0 a1 a2 a3 : V) (H : Hp) (i : Nat) (σ : L2.St) (H' : Hp) : Prop := ∃ (l : List Nat) (v : Option V), σ = [some a0, some a1, some a2, some a3, some (.str (S l)), v] ∧ (∀ x ∈ l, isRB x) ∧ l.length = i ∧ H' = H
theorem invLet_more {a0 a1 a2 a3 : V} {H : Hp} {i : Nat} {l : List Nat} {c : Nat} (v : Option V) (hl : ∀ x ∈ l, isRB x) (hc : isRB c) (hi : l.length = i) :
    invLet a0 a1 a2 a3 H (i + 1) [some a0, some a1, some a2, some a3, some (.str (S l ++ ⟨#[c]⟩)), v] H := by
  refine ⟨l ++ [c], v, ?_, isRB_append hl hc, by simp [hi], rfl⟩
  rw [← S_cat]
theorem ok_any (B : Blt mg) (D : Dfn K mg "_law_any_cycle" (top 56)) : Cal P w K mg base CX0 1 "_law_any_cycle" ["_law_row_here", "_law_at", "_law_longest"] (spCyc K) := by
  have S' := scAny
  refine D.cal0 scAny (fun vs H Q E h => ?_) (fun _ _ _ _ _ _ us hl => match us, hl with | [_, _, _], _ => rfl) (fun f cdv A outer s H vs Q E hr h => ?_)
  · obtain ⟨r, row, a, m, rfl, _⟩ := h
    rfl
  · obtain ⟨r, row, a, m, rfl, hS, ha, ham, hm2, hm20, kQ⟩ := h
    refine ⟨_, (pss_cons (ps_set (i := 3) S'.nd rfl (Or.inl rfl) (pe_op op_add pe_int (pe_callTy call_int1 (by rfl) B.int (by decide +kernel) (pa_cons (pe_op op_mod (pe_ix ix_list (pv 0) (pv 1) (fun _ _ => rfl)) (pe_op op_sub (pv 2) pe_int)) pa_nil))))
 (pss_cons (ps_set (i := 4) S'.nd rfl (Or.inl rfl) pe_str)
 (pss_cons (ps_for PassesOwn.never rfl (pi_range1 rfl B.range (pa_cons (pe_op op_sub (pv 3) pe_int) pa_nil)) (pg_name (i := 5) S'.nd rfl (Or.inl rfl))
  (pss_one (ps_set (i := 4) S'.nd rfl (Or.inl rfl) (pe_op op_add_str (pv 4) (pe_ix ix_str pe_str (pe_op op_mod (pe_ix ix_list (pv 0) (pe_op op_add (pe_op op_add (pv 1) pe_int) (pv 5)) (fun _ _ => rfl)) pe_int) (fun _ _ => rfl))))))
 (pss_cons (ps_if (pt_cmpR op_eq (pe_m1 PySem.F.slot_str_count PySem.F.type_str_count mt_count (pv 4) pe_str) pe_int (nomark _)) (pss_one (ps_ret (pe_op op_add_str (pv 4) pe_str))) pss_nil)
 (pss_cons (ps_if (pt_cmpR op_eq (pe_m1 PySem.F.slot_str_count PySem.F.type_str_count mt_count (pv 4) pe_str) pe_int (nomark _)) (pss_one (ps_ret (pe_op op_add_str (pv 4) pe_str))) pss_nil)
 (pss_one (ps_ret (pe_op op_add_str (pv 4) (pe_ix ix_str pe_str (pe_op op_mod (pe_ix ix_list (pv 0) (pe_op op_add (pv 1) (pv 2)) (fun _ _ => rfl)) pe_int) (fun _ _ => rfl)))))))))), ?_⟩
    obtain ⟨y, hy, _⟩ := row_at (row := row) ha (by omega)
    have hb := Int.emod_nonneg y (show m - 1 ≠ 0 by omega)
    have hb2 := Int.emod_lt_of_pos y (show 0 < m - 1 by omega)
    refine ⟨_, rfl, _, rfl, r, _, _, _, rfl, rfl, hS, hy, _, rfl, _, _, rfl, rfl, _, _, rfl, rfl, (by show (0 : Int) < m - 1; omega), .inl ⟨_, rfl, _, _, rfl, rfl, ?_⟩⟩
    refine ⟨_, rfl, _, _, rfl, rfl, _, rfl, by omega, by omega, for_range (lo := 0) (n := _) (invLet _ _ _ _ H) ⟨[], none, rfl, by simp, rfl, rfl⟩ ?_ ?_⟩
    · rintro i σ H' hi ⟨l, v, rfl, hl, hli, rfl⟩
      obtain ⟨z, hz, _⟩ := row_at (row := row) (z := a + 1 + (0 + (i : Int))) (by omega) (by omega)
      obtain ⟨c, hc, hcr⟩ := at_RB z
      refine ⟨_, rfl, _, rfl, _, rfl, _, _, rfl, rfl, _, rfl, _, _, rfl, rfl, r, _, _, _, rfl, rfl, hS, hz, _, _, rfl, rfl, (by show (0 : Int) < 2; decide), _, _, c, rfl, rfl, S_le (l := [82, 66]) (by decide), hc, _, _, rfl, rfl, ?_, ?_⟩
      · rw [S_len]
        show l.length + 1 ≤ sizeLine
        exact Nat.le_of_lt (small1000 (by omega))
      · exact invLet_more _ hl hcr hli
    · rintro σ H' ⟨l, v, rfl, hl, hli, rfl⟩
      have hll : l.length ≤ 100 := by omega
      have room : ∀ k : Nat, k ≤ 2 → l.length + k ≤ sizeLine := fun k hk => Nat.le_of_lt (small1000 (by omega))
      have cR : Txt.count (S l) (Str.ofString "R") = ((l.count 82 : Nat) : Int) := by rw [strR]; exact count_S l 82
      have cB : Txt.count (S l) (Str.ofString "B") = ((l.count 66 : Nat) : Int) := by rw [strB]; exact count_S l 66
      have hlen := rb_len hl
      refine ⟨_, rfl, ⟨_, rfl⟩, _, _, rfl, rfl, rfl, _, rfl, ite2 (fun e => ?_) (fun e => ?_)⟩
      · have e0 := vint e
        rw [cR] at e0
        refine ⟨_, rfl, _, _, rfl, rfl, (by rw [S_len]; exact room 1 (by decide)), ?_⟩
        rw [strR, S_cat]
        refine kQ _ _ (cyc_of (isRB_append hl (.inl rfl)) (by simp) ?_) (by simp; omega) (Same.refl _)
        have : 0 < l.count 66 := by omega
        simp [List.count_pos_iff.mp this]
      · have e0 := vint_no e
        rw [cR] at e0
        have mR : 82 ∈ l := count_pos_of e0
        refine ⟨_, rfl, ⟨_, rfl⟩, _, _, rfl, rfl, rfl, _, rfl, ite2 (fun e2 => ?_) (fun e2 => ?_)⟩
        · refine ⟨_, rfl, _, _, rfl, rfl, (by rw [S_len]; exact room 1 (by decide)), ?_⟩
          rw [strB, S_cat]
          exact kQ _ _ (cyc_of (isRB_append hl (.inr rfl)) (by simp [mR]) (by simp)) (by simp; omega) (Same.refl _)
        · have e1 := vint_no e2
          rw [cB] at e1
          have mB : 66 ∈ l := count_pos_of e1
          obtain ⟨z, hz, _⟩ := row_at (row := row) (z := a + m) (by omega) (by omega)
          obtain ⟨c, hc, hcr⟩ := at_RB z
          refine ⟨_, rfl, _, rfl, _, rfl, _, rfl, _, _, rfl, rfl, r, _, _, _, rfl, rfl, hS, hz, _, _, rfl, rfl, (by show (0 : Int) < 2; decide), _, _, c, rfl, rfl, S_le (l := [82, 66]) (by decide), hc, _, _, rfl, rfl, (by rw [S_len]; exact room 1 (by decide)), ?_⟩
          show Q (.str (S l ++ S [c])) _
          rw [S_cat]
          exact kQ _ _ (cyc_of (isRB_append hl hcr) (by simp [mR]) (by simp [mB])) (by simp; omega) (Same.refl _)
end
end Lh
set_option Elab.async false
set_option linter.all false
set_option maxRecDepth 100000
set_option maxHeartbeats 4000000
namespace Lh
open PySem PySem.Spec PyProof.Rows L2 SX
section
variable {P : Program} {w : World} {K : PySem.W.Frag} {mg : Str → Option Value} {base : Heap}
theorem scOdd : FnScope ["_law_row_here", "_law_at", "_law_longest", "_law_size", "_law_letters", "_law_k", "_law_tails"] ["_law_row_here", "_law_at", "_law_longest"] (defScope (top 55)) := ⟨rfl, rfl, rfl, by decide +kernel, rfl, by decide +kernel, by decide +kernel⟩
/-- letters R, B grow in slot 4 -/
def invLet2 (a0 a1 a2 a3 : V) (H : Hp) (i : Nat) (σ : L2.St) (H' : Hp) : Prop := ∃ (l : List Nat) (v : Option V), σ = [some a0, some a1, some a2, some a3, some (.str (S l)), v, none] ∧ (∀ x ∈ l, isRB x) ∧ l.length = i ∧ H' = H
theorem invLet2_more {a0 a1 a2 a3 : V} {H : Hp} {i : Nat} {l : List Nat} {c : Nat} (v : Option V) (hl : ∀ x ∈ l, isRB x) (hc : isRB c) (hi : l.length = i) :
    invLet2 a0 a1 a2 a3 H (i + 1) [some a0, some a1, some a2, some a3, some (.str (S l ++ ⟨#[c]⟩)), v, none] H := by
  refine ⟨l ++ [c], v, ?_, isRB_append hl hc, by simp [hi], rfl⟩
  rw [← S_cat]
theorem isRB_app2 {l m : List Nat} (h : ∀ x ∈ l, isRB x) (h2 : ∀ x ∈ m, isRB x) : ∀ x ∈ l ++ m, isRB x := fun x hx => by
  rcases List.mem_append.mp hx with q | q
  · exact h x q
  · exact h2 x q
theorem ok_odd (B : Blt mg) (D : Dfn K mg "_law_odd_cycle" (top 55)) : Cal P w K mg base CX0 1 "_law_odd_cycle" ["_law_row_here", "_law_at", "_law_longest"] (spCyc K) := by
  have S' := scOdd
  refine D.cal0 scOdd (fun vs H Q E h => ?_) (fun _ _ _ _ _ _ us hl => match us, hl with | [_, _, _], _ => rfl) (fun f cdv A outer s H vs Q E hr h => ?_)
  · obtain ⟨r, row, a, m, rfl, _⟩ := h
    rfl
  · obtain ⟨r, row, a, m, rfl, hS, ha, ham, hm2, hm20, kQ⟩ := h
    refine ⟨_, (pss_cons (ps_set (i := 3) S'.nd rfl (Or.inl rfl) (pe_op op_add pe_int (pe_op op_mul pe_int (pe_callTy call_int1 (by rfl) B.int (by decide +kernel) (pa_cons (pe_op op_mod (pe_ix ix_list (pv 0) (pv 1) (fun _ _ => rfl)) (pe_op op_fdiv (pv 2) pe_int)) pa_nil)))))
 (pss_cons (ps_set (i := 4) S'.nd rfl (Or.inl rfl) pe_str)
 (pss_cons (ps_for PassesOwn.never rfl (pi_range1 rfl B.range (pa_cons (pe_op op_sub (pv 3) pe_int) pa_nil)) (pg_name (i := 5) S'.nd rfl (Or.inl rfl))
  (pss_one (ps_set (i := 4) S'.nd rfl (Or.inl rfl) (pe_op op_add_str (pv 4) (pe_ix ix_str pe_str (pe_op op_mod (pe_ix ix_list (pv 0) (pe_op op_add (pe_op op_add (pv 1) pe_int) (pv 5)) (fun _ _ => rfl)) pe_int) (fun _ _ => rfl))))))
 (pss_cons (ps_set (i := 6) S'.nd rfl (Or.inl rfl) (pe_lst (pa_cons pe_str (pa_cons pe_str pa_nil))))
 (pss_cons (ps_if (pt_cmpR op_eq (pe_op op_mod (pe_m1 PySem.F.slot_str_count PySem.F.type_str_count mt_count (pv 4) pe_str) pe_int) pe_int (nomark _)) (pss_one (ps_set (i := 6) S'.nd rfl (Or.inl rfl) (pe_lst (pa_cons pe_str (pa_cons pe_str pa_nil))))) pss_nil)
 (pss_one (ps_ret (pe_op op_add_str (pv 4) (pe_ix ix_list (pv 6) (pe_op op_mod (pe_ix ix_list (pv 0) (pe_op op_sub (pe_op op_add (pv 1) (pv 2)) pe_int) (fun _ _ => rfl)) pe_int) (fun _ _ => rfl)))))))))), ?_⟩
    obtain ⟨y, hy, _⟩ := row_at (row := row) ha (by omega)
    have hb := Int.emod_nonneg y (show m / 2 ≠ 0 by omega)
    have hb2 := Int.emod_lt_of_pos y (show 0 < m / 2 by omega)
    refine ⟨_, rfl, _, rfl, r, _, _, _, rfl, rfl, hS, hy, _, rfl, _, _, rfl, rfl, ⟨by decide, by decide⟩, _, _, rfl, rfl, (by show (0 : Int) < m / 2; omega), .inl ⟨_, rfl, _, _, rfl, rfl, .inl ⟨by decide, by decide⟩, _, _, rfl, rfl, ?_⟩⟩
    refine ⟨_, rfl, _, _, rfl, rfl, _, rfl, by omega, by omega, for_range (lo := 0) (n := _) (invLet2 _ _ _ _ H) ⟨[], none, rfl, by simp, rfl, rfl⟩ ?_ ?_⟩
    · rintro i σ H' hi ⟨l, v, rfl, hl, hli, rfl⟩
      obtain ⟨z, hz, _⟩ := row_at (row := row) (z := a + 1 + (0 + (i : Int))) (by omega) (by omega)
      obtain ⟨c, hc, hcr⟩ := at_RB z
      refine ⟨_, rfl, _, rfl, _, rfl, _, _, rfl, rfl, _, rfl, _, _, rfl, rfl, r, _, _, _, rfl, rfl, hS, hz, _, _, rfl, rfl, (by show (0 : Int) < 2; decide), _, _, c, rfl, rfl, S_le (l := [82, 66]) (by decide), hc, _, _, rfl, rfl, ?_, ?_⟩
      · rw [S_len]
        show l.length + 1 ≤ sizeLine
        exact Nat.le_of_lt (small1000 (by omega))
      · exact invLet2_more _ hl hcr hli
    · rintro σ H' ⟨l, v, rfl, hl, hli, rfl⟩
      have hll : l.length ≤ 100 := by omega
      have room : ∀ k : Nat, k ≤ 2 → l.length + k ≤ sizeLine := fun k hk => Nat.le_of_lt (small1000 (by omega))
      have cR : Txt.count (S l) (Str.ofString "R") = ((l.count 82 : Nat) : Int) := by rw [strR]; exact count_S l 82
      have hlen := rb_len hl
      obtain ⟨z, hz, _⟩ := row_at (row := row) (z := a + m - 1) (by omega) (by omega)
      refine ⟨by decide, fun t1 ht1 => ?_⟩
      have s1 : Same H' (upd H' t1 (.lst [.str (Str.ofString "RB"), .str (Str.ofString "BR")])) := same_new ht1
      refine ⟨_, rfl, ⟨_, rfl⟩, _, _, rfl, rfl, _, _, rfl, rfl, (by show (0 : Int) < 2; decide), rfl, _, rfl, ite2 (fun e => ?_) (fun e => ?_)⟩
      · have e0 := vint e
        rw [cR] at e0
        refine ⟨by decide, fun t2 ht2 => ?_⟩
        have s2 : Same (upd H' t1 (.lst [.str (Str.ofString "RB"), .str (Str.ofString "BR")])) (upd (upd H' t1 (.lst [.str (Str.ofString "RB"), .str (Str.ofString "BR")])) t2 (.lst [.str (Str.ofString "RR"), .str (Str.ofString "BB")])) := same_new ht2
        obtain ⟨t, ht, hte⟩ := at_two (a := Str.ofString "RR") (b := Str.ofString "BB") z
        have hte2 : ∃ q : List Nat, t = S q ∧ (∀ x ∈ q, isRB x) ∧ q.length = 2 := by
          rcases hte with rfl | rfl
          · exact ⟨[82, 82], by decide +kernel, by simp [isRB], rfl⟩
          · exact ⟨[66, 66], by decide +kernel, by simp [isRB], rfl⟩
        obtain ⟨q, rfl, hq, hq2⟩ := hte2
        refine ⟨_, rfl, _, rfl, _, rfl, _, rfl, _, rfl, _, _, rfl, rfl, _, _, rfl, rfl, r, _, _, _, rfl, rfl, (s1.trans s2).seq hS, hz, _, _, rfl, rfl, (by show (0 : Int) < 2; decide), t2, _, _, _, rfl, rfl, SqL.of upd_same, ht, _, _, rfl, rfl, (by rw [S_len, S_len, hq2]; exact room 2 (by decide)), ?_⟩
        rw [S_cat]
        have m1 : 82 ∈ l := List.count_pos_iff.mp (by omega)
        have m2 : 66 ∈ l := List.count_pos_iff.mp (by omega)
        exact kQ _ _ (cyc_of (isRB_app2 hl hq) (by simp [m1]) (by simp [m2])) (by simp [hq2]; omega) (s1.trans s2)
      · obtain ⟨t, ht, hte⟩ := at_two (a := Str.ofString "RB") (b := Str.ofString "BR") z
        have hte2 : ∃ q : List Nat, t = S q ∧ (∀ x ∈ q, isRB x) ∧ q.length = 2 ∧ 82 ∈ q ∧ 66 ∈ q := by
          rcases hte with rfl | rfl
          · exact ⟨[82, 66], by decide +kernel, by simp [isRB], rfl, by simp, by simp⟩
          · exact ⟨[66, 82], by decide +kernel, by simp [isRB], rfl, by simp, by simp⟩
        obtain ⟨q, rfl, hq, hq2, m1, m2⟩ := hte2
        refine ⟨_, rfl, _, rfl, _, rfl, _, rfl, _, rfl, _, _, rfl, rfl, _, _, rfl, rfl, r, _, _, _, rfl, rfl, s1.seq hS, hz, _, _, rfl, rfl, (by show (0 : Int) < 2; decide), t1, _, _, _, rfl, rfl, SqL.of upd_same, ht, _, _, rfl, rfl, (by rw [S_len, S_len, hq2]; exact room 2 (by decide)), ?_⟩
        rw [S_cat]
        exact kQ _ _ (cyc_of (isRB_app2 hl hq) (by simp [m1]) (by simp [m2])) (by simp [hq2]; omega) s1
end
end Lh
set_option Elab.async false
set_option linter.all false
set_option maxRecDepth 100000
set_option maxHeartbeats 8000000
namespace Lh
open PySem PySem.Spec PyProof.Rows L2 SX
/-! ### the sizes of the draws -/
structure SzOk (most extra wide : Int) (i : Nat) (sz : List Int) : Prop where
  len : (sz.length : Int) = 2 + most + i * wide
  pos : ∀ n ∈ sz, 0 < n ∧ n ≤ 1000000
  z0 : sz[0]? = some most
  z1 : sz[1]? = some (extra + 1)
  zk : ∀ k : Nat, (k : Int) < most → sz[2 + k]? = some ((k : Int) + 1)
def sz0 (most extra : Int) : List Int := [most, extra + 1] ++ List.map (fun k : Nat => (k : Int) + 1) (List.range most.toNat)
theorem SzOk.start {most extra wide : Int} (h1 : 1 ≤ most) (h2 : most ≤ 16) (h3 : 0 ≤ extra) (h4 : extra ≤ 9) : SzOk most extra wide 0 (sz0 most extra) := by
  refine ⟨?_, fun n hn => ?_, rfl, rfl, fun k hk => ?_⟩
  · simp [sz0]
    omega
  · unfold sz0 at hn
    rcases List.mem_append.mp hn with q | q
    · simp at q
      omega
    · obtain ⟨k, hk, rfl⟩ := List.mem_map.mp q
      have := List.mem_range.mp hk
      omega
  · unfold sz0
    rw [List.getElem?_append_right (by simp)]
    have e : 2 + k - ([most, extra + 1] : List Int).length = k := by simp
    rw [e, List.getElem?_map, List.getElem?_range (by omega)]
    rfl
theorem SzOk.more {most extra wide : Int} {i : Nat} {sz : List Int} (h : SzOk most extra wide i sz) (add : List Int) (hl : (add.length : Int) = wide) (hp : ∀ n ∈ add, 0 < n ∧ n ≤ 1000000) : SzOk most extra wide (i + 1) (sz ++ add) := by
  have app : ∀ {j : Nat} {v : Int}, sz[j]? = some v → (sz ++ add)[j]? = some v := fun {j v} e => by
    rw [List.getElem?_append_left (List.getElem?_eq_some_iff.mp e).1]
    exact e
  refine ⟨?_, fun n hn => ?_, app h.z0, app h.z1, fun k hk => app (h.zk k hk)⟩
  · rw [List.length_append]
    have := h.len
    have e : ((i + 1 : Nat) : Int) * wide = i * wide + wide := by rw [Int.natCast_add, Int.add_mul]; simp
    rw [e]
    omega
  · rcases List.mem_append.mp hn with q | q
    · exact h.pos n q
    · exact hp n q
theorem SzOk.le {most extra wide : Int} {i : Nat} {sz : List Int} (h : SzOk most extra wide i sz) (h2 : most ≤ 16) (hi : i ≤ 24) (hw : 0 ≤ wide) (hw2 : wide ≤ 25) : sz.length ≤ 700 := by
  have e := h.len
  have q : (i : Int) * wide ≤ 24 * 25 := Int.mul_le_mul (by omega) hw2 hw (by decide)
  omega
/-- a house of the reds' and blues' kind: the promise -/
def spHouse (K : PySem.W.Frag) : Sp := fun vs H Q _ => ∃ (c most extra longest : Int) (odd : Bool), vs = [.int c, .int most, .int extra, .int longest, .bl odd] ∧ 1 ≤ most ∧ most ≤ 16 ∧ 0 ≤ extra ∧ extra ≤ 9 ∧ 2 ≤ longest ∧ longest ≤ 20 ∧
  ∀ (n : Int) (ds : List Door) (H' : Hp) (t l : Addr) (refs : List V), GoodHouse n [82, 66] ds → n ≤ most → (∀ d ∈ ds, (d.2.2.length : Int) ≤ longest) → (n = 1 → ds = []) → Same H H' → H t = none → H l = none → H' t = some (.tup [.int n, .ref l]) → H' l = some (.lst refs) → All2 (IsDoor H') refs ds → Q (.ref t) H'
section
variable {P : Program} {w : World} {K : PySem.W.Frag} {mg : Str → Option Value} {base : Heap}
theorem scHouse : FnScope ["_law_cell_here", "_law_most", "_law_extra", "_law_longest", "_law_odd", "_law_sizes", "_law_k", "_law_wide", "_law_row_here", "_law_rooms", "_law_many", "_law_names", "_law_doors", "_law_at", "_law_far", "_law_near", "_law_cycle"] ["_law_cell_here", "_law_most", "_law_extra", "_law_longest", "_law_odd"] (defScope (top 57)) := ⟨rfl, rfl, rfl, by decide +kernel, rfl, by decide +kernel, by decide +kernel⟩
abbrev stH (a0 a1 a2 a3 a4 : V) (a5 a6 a7 a8 a9 a10 a11 a12 a13 a14 a15 a16 : Option V) : L2.St := [some a0, some a1, some a2, some a3, some a4, a5, a6, a7, a8, a9, a10, a11, a12, a13, a14, a15, a16]
def inv1 (H : Hp) (c most extra longest : Int) (odd : Bool) (wide : Int) (i : Nat) (σ : L2.St) (H' : Hp) : Prop := ∃ (sz : List Int) (p : Addr) (vk : Option V),
  σ = stH (.int c) (.int most) (.int extra) (.int longest) (.bl odd) (some (.ref p)) vk (some (.int wide)) none none none none none none none none none ∧ Same H H' ∧ H p = none ∧ H' p = some (.lst (sz.map V.int)) ∧ SzOk most extra wide i sz
theorem inv1_of {H H' : Hp} {c most extra longest : Int} {odd : Bool} {wide : Int} {i : Nat} {sz : List Int} {p : Addr} {vs : List V} (vk : Option V) (s : Same H H') (hp : H p = none) (h : H' p = some (.lst vs)) (e : vs = sz.map V.int) (k : SzOk most extra wide i sz) :
    inv1 H c most extra longest odd wide i (stH (.int c) (.int most) (.int extra) (.int longest) (.bl odd) (some (.ref p)) vk (some (.int wide)) none none none none none none none none none) H' :=
  ⟨sz, p, vk, rfl, s, hp, by rw [h, e], k⟩
/-- the state's slots behind the row of draws -/
abbrev stH2 (c most extra longest : Int) (odd : Bool) (p r : Addr) (rooms : Int) (vk vmany vnames vdoors vat vfar vnear vcyc : Option V) : L2.St :=
  stH (.int c) (.int most) (.int extra) (.int longest) (.bl odd) (some (.ref p)) vk (some (.int (4 + longest + 1))) (some (.ref r)) (some (.int rooms)) vmany vnames vdoors vat vfar vnear vcyc
def mid1 (c most extra longest : Int) (odd : Bool) (p r : Addr) (y0 y1 : Int) (H2 : Hp) (σ : L2.St) (H' : Hp) : Prop := ∃ (many : Int) (vk : Option V),
  σ = stH2 c most extra longest odd p r (1 + y0) vk (some (.int many)) none none none none none none ∧ H' = H2 ∧ 0 ≤ many ∧ many ≤ y0 + y1 ∧ y0 ≤ many ∧ (y0 = 0 → many = 0)
def inv2 (c most extra longest : Int) (odd : Bool) (p r : Addr) (y0 many : Int) (nl : Addr) (H2 : Hp) (i : Nat) (σ : L2.St) (H' : Hp) : Prop := ∃ (xs : List Int) (vk : Option V),
  σ = stH2 c most extra longest odd p r (1 + y0) vk (some (.int many)) (some (.ref nl)) none none none none none ∧ Same H2 H' ∧ H' nl = some (.lst (xs.map V.int)) ∧ Nm i xs
theorem inv2_of {c most extra longest : Int} {odd : Bool} {p r : Addr} {y0 many : Int} {nl : Addr} {H2 H' : Hp} {i : Nat} {xs : List Int} {vs : List V} (vk : Option V) (s : Same H2 H') (h : H' nl = some (.lst vs)) (e : vs = xs.map V.int) (n : Nm i xs) :
    inv2 c most extra longest odd p r y0 many nl H2 i (stH2 c most extra longest odd p r (1 + y0) vk (some (.int many)) (some (.ref nl)) none none none none none) H' := ⟨xs, vk, rfl, s, by rw [h, e], n⟩
def inv3 (c most extra longest : Int) (odd : Bool) (p r : Addr) (y0 many : Int) (nl dl : Addr) (xs : List Int) (H3 : Hp) (i : Nat) (σ : L2.St) (H' : Hp) : Prop := ∃ (ds : List Door) (refs : List V) (vk v1 v2 v3 v4 : Option V),
  σ = stH2 c most extra longest odd p r (1 + y0) vk (some (.int many)) (some (.ref nl)) (some (.ref dl)) v1 v2 v3 v4 ∧ Same H3 H' ∧ H' dl = some (.lst refs) ∧ All2 (IsDoor H') refs ds ∧ Tree (1 + y0) [82, 66] longest xs i ds
def mid2 (c most extra longest : Int) (odd : Bool) (p r : Addr) (y0 many : Int) (nl dl : Addr) (k : Nat) (a : Int) (v4 : Option V) (Hc : Hp) (σ : L2.St) (H' : Hp) : Prop := ∃ near far : Int,
  σ = stH2 c most extra longest odd p r (1 + y0) (some (.int (0 + (k : Int)))) (some (.int many)) (some (.ref nl)) (some (.ref dl)) (some (.int a)) (some (.int far)) (some (.int near)) v4 ∧ H' = Hc ∧
  0 ≤ near ∧ near < 1 + y0 ∧ 0 ≤ far ∧ far < 1 + y0 ∧ near ≠ far ∧ ((k : Int) + 1 < 1 + y0 → far = k + 1 ∧ near ≤ k)
def mid3 (c most extra longest : Int) (odd : Bool) (p r : Addr) (y0 many : Int) (nl dl : Addr) (k : Nat) (a : Int) (v4 : Option V) (Hc : Hp) (σ : L2.St) (H' : Hp) : Prop := ∃ near far : Int,
  σ = stH2 c most extra longest odd p r (1 + y0) (some (.int (0 + (k : Int)))) (some (.int many)) (some (.ref nl)) (some (.ref dl)) (some (.int a)) (some (.int far)) (some (.int near)) v4 ∧ H' = Hc ∧
  0 ≤ near ∧ near < 1 + y0 ∧ 0 ≤ far ∧ far < 1 + y0 ∧ near ≠ far ∧ ((k : Int) + 1 < 1 + y0 → (far = k + 1 ∧ near ≤ k) ∨ (near = k + 1 ∧ far ≤ k))
def mid4 (c most extra longest : Int) (odd : Bool) (p r : Addr) (y0 many : Int) (nl dl : Addr) (k : Nat) (a near far : Int) (Hc : Hp) (σ : L2.St) (H' : Hp) : Prop := ∃ cyc : List Nat,
  σ = stH2 c most extra longest odd p r (1 + y0) (some (.int (0 + (k : Int)))) (some (.int many)) (some (.ref nl)) (some (.ref dl)) (some (.int a)) (some (.int far)) (some (.int near)) (some (.str (S cyc))) ∧ Same Hc H' ∧ CycOk [82, 66] cyc ∧ (cyc.length : Int) ≤ longest
theorem ok_house (B : Blt mg) (D : Dfn K mg "_law_house" (top 57)) (c_law_row : Cal P w K mg base CX0 1 "_law_row" ["_law_cell_here", "_law_sizes"] (spRow K))
    (c_law_any_cycle : Cal P w K mg base CX0 1 "_law_any_cycle" ["_law_row_here", "_law_at", "_law_longest"] (spCyc K)) (c_law_odd_cycle : Cal P w K mg base CX0 1 "_law_odd_cycle" ["_law_row_here", "_law_at", "_law_longest"] (spCyc K)) :
    Cal P w K mg base CX0 2 "_law_house" ["_law_cell_here", "_law_most", "_law_extra", "_law_longest", "_law_odd"] (spHouse K) := by
  have S' := scHouse
  refine D.cal0 scHouse (fun vs H Q E h => ?_) (fun _ _ _ _ _ _ us hl => match us, hl with | [_, _, _, _, _], _ => rfl) (fun f cdv A outer s H vs Q E hr h => ?_)
  · obtain ⟨c, most, extra, longest, odd, rfl, _⟩ := h
    rfl
  · obtain ⟨c, most, extra, longest, odd, rfl, hm1, hm16, he0, he9, hL2, hL20, kQ⟩ := h
    refine ⟨_, (pss_cons (ps_set (i := 5) S'.nd rfl (Or.inl rfl) (pe_op op_cat (pe_lst (pa_cons (pv 1) (pa_cons (pe_op op_add (pv 2) pe_int) pa_nil))) (pe_lc (own := [("_law_k", 6)]) (g := gName 6) (by rfl) S'.nd (pi_range1 rfl B.range (pa_cons (pv 1) pa_nil)) (blkOk_by (N := ["_law_cell_here", "_law_most", "_law_extra", "_law_longest", "_law_odd", "_law_sizes", "_law_k", "_law_wide", "_law_row_here", "_law_rooms", "_law_many", "_law_names", "_law_doors", "_law_at", "_law_far", "_law_near", "_law_cycle"]) (sc := defScope (top 57)) (by decide +kernel)) (fun _ _ _ _ _ => (pg_name (i := 6) S'.nd rfl (Or.inl rfl))) (fun _ _ _ _ _ => pts_nil) (fun _ _ _ _ _ => (pe_op op_add (pv 6) pe_int)))))
 (pss_cons (ps_set (i := 7) S'.nd rfl (Or.inl rfl) (pe_op op_add (pe_op op_add pe_int (pv 3)) pe_int))
 (pss_cons (ps_for PassesOwn.never rfl (pi_range1 rfl B.range (pa_cons (pe_op op_add (pe_op op_sub (pv 1) pe_int) (pv 2)) pa_nil)) (pg_name (i := 6) S'.nd rfl (Or.inl rfl))
  (pss_one (ps_set (i := 5) S'.nd rfl (Or.inl rfl) (pe_op op_cat (pe_op op_cat (pv 5) (pe_lst (pa_cons (pv 1) (pa_cons (pv 1) (pa_cons pe_int (pa_cons (pe_op op_add (pv 1) (pv 2)) (pa_cons pe_int pa_nil))))))) (pe_op op_rep (pe_lst (pa_cons pe_int pa_nil)) (pv 3))))))
 (pss_cons (ps_set (i := 8) S'.nd rfl (Or.inl rfl) (pcl c_law_row hr (pa_cons (pv 0) (pa_cons (pv 5) pa_nil))))
 (pss_cons (ps_set (i := 9) S'.nd rfl (Or.inl rfl) (pe_op op_add pe_int (pe_ix ix_list (pv 8) pe_int (fun _ _ => rfl))))
 (pss_cons (ps_set (i := 10) S'.nd rfl (Or.inl rfl) (pe_op op_add (pe_op op_sub (pv 9) pe_int) (pe_ix ix_list (pv 8) pe_int (fun _ _ => rfl))))
 (C8.pss_cut (ps_if (pt_cmpR op_eq (pv 9) pe_int (nomark _)) (pss_one (ps_set (i := 10) S'.nd rfl (Or.inl rfl) pe_int)) pss_nil)
 (pss_cons (ps_set (i := 11) S'.nd rfl (Or.inl rfl) (pe_lst pa_nil))
 (pss_cons (ps_for PassesOwn.never rfl (pi_range1 rfl B.range (pa_cons (pv 9) pa_nil)) (pg_name (i := 6) S'.nd rfl (Or.inl rfl))
  (pss_one (ps_expr (pe_bm PySem.F.plainAttrs_list PySem.F.slot_list_insert PySem.F.type_list_insert mt_insert (pv 11) (pa_cons (pe_ix ix_list (pv 8) (pe_op op_add pe_int (pv 6)) (fun _ _ => rfl)) (pa_cons (pv 6) pa_nil))))))
 (pss_cons (ps_set (i := 12) S'.nd rfl (Or.inl rfl) (pe_lst pa_nil))
 (pss_cons (ps_for PassesOwn.never rfl (pi_range1 rfl B.range (pa_cons (pv 10) pa_nil)) (pg_name (i := 6) S'.nd rfl (Or.inl rfl))
  (pss_cons (ps_set (i := 13) S'.nd rfl (Or.inl rfl) (pe_op op_add (pe_op op_add pe_int (pv 1)) (pe_op op_mul (pv 6) (pv 7))))
 (pss_cons (ps_set (i := 14) S'.nd rfl (Or.inl rfl) (pe_op op_add (pv 6) pe_int))
 (pss_cons (ps_set (i := 15) S'.nd rfl (Or.inl rfl) (pe_callTy call_int1 (by rfl) B.int (by decide +kernel) (pa_cons (pe_op op_mod (pe_ix ix_list (pv 8) (pv 13) (fun _ _ => rfl)) (pv 14)) pa_nil)))
 (C8.pss_cut (ps_if (pt_cmpR op_ge (pv 6) (pe_op op_sub (pv 9) pe_int) (nomark _)) (pss_cons (ps_set (i := 15) S'.nd rfl (Or.inl rfl) (pe_callTy call_int1 (by rfl) B.int (by decide +kernel) (pa_cons (pe_op op_mod (pe_ix ix_list (pv 8) (pv 13) (fun _ _ => rfl)) (pv 9)) pa_nil)))
 (pss_one (ps_set (i := 14) S'.nd rfl (Or.inl rfl) (pe_op op_mod (pe_callTy call_int1 (by rfl) B.int (by decide +kernel) (pa_cons (pe_op op_add (pe_op op_add (pv 15) pe_int) (pe_op op_mod (pe_ix ix_list (pv 8) (pe_op op_add (pv 13) pe_int) (fun _ _ => rfl)) (pe_op op_sub (pv 9) pe_int))) pa_nil)) (pv 9))))) pss_nil)
 (C8.pss_cut (ps_if (pt_cmpR op_eq (pe_ix ix_list (pv 8) (pe_op op_add (pv 13) pe_int) (fun _ _ => rfl)) pe_int (nomark _)) (pss_one (ps_par (i := 15) (j := 14) (by rfl) S'.nd rfl rfl (by decide) rfl rfl (pa_cons (pv 14) (pa_cons (pv 15) pa_nil)) (by rfl))) pss_nil)
 (pss_cons (ps_set (i := 16) S'.nd rfl (Or.inl rfl) (pcl c_law_any_cycle hr (pa_cons (pv 8) (pa_cons (pe_op op_add (pv 13) pe_int) (pa_cons (pv 3) pa_nil)))))
 (C8.pss_cut (ps_if (pt_val (pv 4)) (pss_one (ps_set (i := 16) S'.nd rfl (Or.inl rfl) (pcl c_law_odd_cycle hr (pa_cons (pv 8) (pa_cons (pe_op op_add (pv 13) pe_int) (pa_cons (pv 3) pa_nil)))))) pss_nil)
 (pss_one (ps_expr (pe_bm PySem.F.plainAttrs_list PySem.F.slot_list_insert PySem.F.type_list_insert mt_insert (pv 12) (pa_cons (pe_callTy call_int1 (by rfl) B.int (by decide +kernel) (pa_cons (pe_op op_mod (pe_ix ix_list (pv 8) (pe_op op_add (pv 13) pe_int) (fun _ _ => rfl)) (pe_op op_add (pe_callB call_len_seq (by rfl) B.len PySem.boot_len (pa_cons (pv 12) pa_nil)) pe_int)) pa_nil)) (pa_cons (pe_tup (pa_cons (pe_ix ix_list (pv 11) (pv 15) (fun _ _ => rfl)) (pa_cons (pe_ix ix_list (pv 11) (pv 14) (fun _ _ => rfl)) (pa_cons (pv 16) pa_nil)))) pa_nil)))))))))))))
 (pss_one (ps_ret (pe_tup (pa_cons (pv 9) (pa_cons (pv 12) pa_nil)))))))))))))))), ?_⟩
    refine ⟨_, rfl, _, rfl, _, _, rfl, rfl, (by show 2 ≤ sizeLine; decide), fun l1 hl1 => ?_⟩
    have s1 : Same H (upd H l1 (.lst [.int most, .int (extra + 1)])) := same_new hl1
    refine ⟨_, rfl, _, rfl, by omega, by omega, fun D hD => lc_range (lo := 0) (n := _) (fun i H' => H' = upd (upd H l1 (.lst [.int most, .int (extra + 1)])) D (.lst (List.map (fun k : Nat => V.int ((k : Int) + 1)) (List.range i)))) rfl ?_ ?_⟩
    · rintro i H' hi rfl
      refine ⟨rfl, _, rfl, _, _, rfl, rfl, _, upd_same, ?_, ?_⟩
      · rw [List.length_map, List.length_range]
        exact small1000 (by omega)
      · rw [upd_upd, List.range_succ, List.map_append, Int.zero_add]
        rfl
    · rintro H' rfl
      refine ⟨l1, D, _, _, rfl, rfl, nk upd_same hD, upd_same, ?_, fun p hp => ?_⟩
      · rw [List.length_map, List.length_range]
        show 2 + most.toNat ≤ sizeLine
        exact Nat.le_of_lt (small1000 (by omega))
      have s2 := same_upd (o := .lst ([.int most, .int (extra + 1)] ++ List.map (fun k : Nat => V.int ((k : Int) + 1)) (List.range most.toNat))) (same_upd (o := .lst (List.map (fun k : Nat => V.int ((k : Int) + 1)) (List.range most.toNat))) s1 (s1.free hD)) ((same_upd s1 (s1.free hD)).free hp)
      refine ⟨_, rfl, _, _, rfl, rfl, _, _, rfl, rfl, ?_⟩
      refine ⟨_, rfl, _, _, rfl, rfl, _, rfl, _, _, rfl, rfl, _, rfl, by omega, by omega, for_range (lo := 0) (n := _) (inv1 H c most extra longest odd (4 + longest + 1))
        (inv1_of none s2 ((same_upd s1 (s1.free hD)).free hp) upd_same (by simp [sz0, Function.comp_def]) (SzOk.start hm1 hm16 he0 he9)) ?_ ?_⟩
      · rintro i σ H' hi ⟨sz, p1, vk, rfl, s3, hp1, hL1, ok1⟩
        have hszl : sz.length ≤ 700 := ok1.le hm16 (by omega) (by omega) (by omega)
        refine ⟨_, rfl, _, rfl, _, rfl, _, rfl, _, rfl, _, _, rfl, rfl, (by show 5 ≤ sizeLine; decide), fun q1 hq1 => ?_⟩
        refine ⟨p1, q1, _, _, rfl, rfl, nk hL1 hq1, upd_same, ?_, fun q2 hq2 => ?_⟩
        · rw [List.length_map]
          show sz.length + 5 ≤ sizeLine
          exact Nat.le_of_lt (small1000 (by omega))
        refine ⟨(by show 1 ≤ sizeLine; decide), fun q3 hq3 => ⟨_, rfl, q3, _, _, rfl, rfl, upd_same, by omega, by omega, ?_, fun q4 hq4 => ?_⟩⟩
        · show 1 * longest.toNat ≤ sizeLine
          exact Nat.le_of_lt (small1000 (by omega))
        refine ⟨q2, q4, _, _, rfl, rfl, nk (nk upd_same hq3) hq4, upd_same, ?_, fun q5 hq5 => ?_⟩
        · rw [List.length_append, List.length_map, List.flatten_replicate_singleton, List.length_replicate]
          show sz.length + 5 + longest.toNat ≤ sizeLine
          exact Nat.le_of_lt (small1000 (by omega))
        have t1 := same_upd (o := .lst [.int most, .int most, .int 2, .int (most + extra), .int 60]) s3 (s3.free hq1)
        have t2 := same_upd (o := .lst (List.map V.int sz ++ [.int most, .int most, .int 2, .int (most + extra), .int 60])) t1 (t1.free hq2)
        have t3 := same_upd (o := .lst [.int 2]) t2 (t2.free hq3)
        have t4 := same_upd (o := .lst (List.replicate longest.toNat [V.int 2]).flatten) t3 (t3.free hq4)
        refine inv1_of (sz := sz ++ ([most, most, 2, most + extra, 60] ++ List.replicate longest.toNat 2)) _ (same_upd t4 (t4.free hq5)) (t4.free hq5) upd_same ?_ (ok1.more _ ?_ ?_)
        · rw [List.flatten_replicate_singleton]
          simp
        · simp
          omega
        · intro n hn
          simp at hn
          omega
      · rintro σ H' ⟨sz, p1, vk, rfl, s3, hp1, hL1, ok1⟩
        have hszl : sz.length ≤ 700 := ok1.le hm16 (by omega) (by omega) (by omega)
        refine ⟨_, rfl, _, rfl, c, p1, sz, rfl, SqL.of hL1, by omega, ok1.pos, fun row H2 r rok s4 hr0 hrow => ?_⟩
        have s5 := s3.trans s4
        have hrH : H r = none := s3.free hr0
        obtain ⟨y0, ey0, b0, b0'⟩ := rok.get ok1.z0
        obtain ⟨y1, ey1, b1, b1'⟩ := rok.get ok1.z1
        refine ⟨_, rfl, r, _, _, _, rfl, rfl, SqL.of hrow, at_of (j := 0) rfl (map_get ey0), _, _, rfl, rfl, ?_⟩
        refine ⟨_, rfl, _, _, rfl, rfl, _, rfl, r, _, _, _, rfl, rfl, SqL.of hrow, at_of (j := 1) rfl (map_get ey1), _, _, rfl, rfl, ?_⟩
        refine ⟨mid1 c most extra longest odd p1 r y0 y1 H2, ?_, ?_⟩
        · refine ⟨_, rfl, rfl, _, rfl, ite2 (fun e => ?_) (fun e => ?_)⟩
          · have e0 := vint e
            exact ⟨0, _, rfl, rfl, by omega, by omega, by omega, fun _ => rfl⟩
          · have e0 := vint_no e
            exact ⟨1 + y0 - 1 + y1, _, rfl, rfl, by omega, by omega, by omega, fun q => by omega⟩
        rintro σ H' ⟨many, vk1, rfl, rfl, g0, g1, g2, g3⟩
        refine ⟨Nat.zero_le _, fun nl hnl => ?_⟩
        refine ⟨_, rfl, _, rfl, by omega, by omega, for_range (lo := 0) (n := _) (inv2 c most extra longest odd p1 r y0 many nl H') (inv2_of _ (same_new hnl) upd_same rfl Nm.nil) ?_ ?_⟩
        · rintro i σ H6 hi ⟨xs, vk2, rfl, s6, hN, nm⟩
          obtain ⟨y, ey, by0, by1⟩ := rok.get (ok1.zk i (by omega))
          refine ⟨_, rfl, .inl ⟨rfl, _, SqL.of hN⟩, _, rfl, _, rfl, _, _, rfl, rfl, r, _, _, _, rfl, rfl, SqL.of (s6 _ _ hrow), at_of (j := 2 + i) (by omega) (map_get ey), _, rfl, nl, _, _, _, rfl, rfl, hN, ?_, by omega, by omega, ?_⟩
          · rw [List.length_map, nm.len]
            exact small1000 (by omega)
          · refine inv2_of (xs := xs.take y.toNat ++ [(i : Int)] ++ xs.drop y.toNat) _ (same_upd s6 hnl) upd_same ?_ (nm.more _)
            rw [Int.zero_add]
            exact ins_map V.int xs _ _
        · rintro σ H6 ⟨xs, vk2, rfl, s6, hN, nm0⟩
          have nm : Nm (1 + y0).toNat xs := nm0
          refine ⟨Nat.zero_le _, fun dl hdl => ?_⟩
          refine ⟨_, rfl, _, rfl, by omega, by omega, for_range (lo := 0) (n := _) (inv3 c most extra longest odd p1 r y0 many nl dl xs H6) ⟨[], [], _, _, _, _, _, rfl, same_new hdl, upd_same, .nil, .nil⟩ ?_ ?_⟩
          · rintro i σ H7 hi ⟨ds, refs, vk3, v1, v2, v3, v4, rfl, s7, hD, a2, tr⟩
            have hrow7 : H7 r = some (.lst (row.map V.int)) := s7 _ _ (s6 _ _ hrow)
            have hN7 : H7 nl = some (.lst (xs.map V.int)) := s7 _ _ hN
            have hA : ∀ j : Int, 0 ≤ j → j ≤ 4 + longest → 0 ≤ (2 + most + (0 + (i : Int)) * (4 + longest + 1)) + j ∧ (2 + most + (0 + (i : Int)) * (4 + longest + 1)) + j < row.length := fun j j0 j1 => by
              have el := ok1.len
              have er := rok.1
              have q : ((i : Int) + 1) * (4 + longest + 1) ≤ ((most - 1 + extra).toNat : Int) * (4 + longest + 1) := Int.mul_le_mul_of_nonneg_right (by omega) (by omega)
              rw [Int.add_mul, Int.one_mul] at q
              have q0 : 0 ≤ (i : Int) * (4 + longest + 1) := Int.mul_nonneg (by omega) (by omega)
              rw [Int.zero_add]
              omega
            obtain ⟨yA, hyA, _⟩ := row_at (row := row) (z := (2 + most + (0 + (i : Int)) * (4 + longest + 1))) (by have := hA 0 (by omega) (by omega); omega) (by have := hA 0 (by omega) (by omega); omega)
            obtain ⟨yB, hyB, _⟩ := row_at (row := row) (z := (2 + most + (0 + (i : Int)) * (4 + longest + 1)) + 1) (hA 1 (by omega) (by omega)).1 (hA 1 (by omega) (by omega)).2
            obtain ⟨yC, hyC, _⟩ := row_at (row := row) (z := (2 + most + (0 + (i : Int)) * (4 + longest + 1)) + 2) (hA 2 (by omega) (by omega)).1 (hA 2 (by omega) (by omega)).2
            obtain ⟨yE, hyE, _⟩ := row_at (row := row) (z := (2 + most + (0 + (i : Int)) * (4 + longest + 1)) + 3) (hA 3 (by omega) (by omega)).1 (hA 3 (by omega) (by omega)).2
            have hi1 : (i : Int) < many := by omega
            have y01 : 1 ≤ y0 := by
              rcases Int.lt_or_le 0 y0 with q | q
              · omega
              · have := g3 (by omega)
                omega
            refine ⟨_, rfl, _, _, rfl, rfl, _, rfl, _, rfl, _, _, rfl, rfl, .inl ⟨by omega, by omega⟩, _, _, rfl, rfl, ?_⟩
            refine ⟨_, rfl, _, _, rfl, rfl, ?_⟩
            refine ⟨_, rfl, _, rfl, r, _, _, _, rfl, rfl, SqL.of hrow7, hyA, _, rfl, _, _, rfl, rfl, (by show (0 : Int) < 0 + (i : Int) + 1; omega), .inl ⟨_, rfl, ?_⟩⟩
            refine ⟨mid2 c most extra longest odd p1 r y0 many nl dl i (2 + most + (0 + (i : Int)) * (4 + longest + 1)) v4 H7, ?_, ?_⟩
            · refine ⟨_, rfl, _, rfl, _, _, rfl, rfl, _, _, rfl, rfl, _, rfl, ite2 (fun e => ?_) (fun e => ?_)⟩
              · have n0 := Int.emod_nonneg yA (show 1 + y0 ≠ 0 by omega)
                have n1 := Int.emod_lt_of_pos yA (show 0 < 1 + y0 by omega)
                have m0 := Int.emod_nonneg yB (show 1 + y0 - 1 ≠ 0 by omega)
                have m1 := Int.emod_lt_of_pos yB (show 0 < 1 + y0 - 1 by omega)
                refine ⟨_, rfl, _, rfl, r, _, _, _, rfl, rfl, SqL.of hrow7, hyA, _, rfl, _, _, rfl, rfl, (by show (0 : Int) < 1 + y0; omega), .inl ⟨_, rfl, ?_⟩⟩
                refine ⟨_, rfl, _, _, rfl, rfl, _, rfl, _, rfl, _, _, rfl, rfl, r, _, _, _, rfl, rfl, SqL.of hrow7, hyB, _, rfl, _, _, rfl, rfl, _, _, rfl, rfl, (by show (0 : Int) < 1 + y0 - 1; omega), _, _, rfl, rfl, .inl ⟨_, rfl, _, rfl, _, _, rfl, rfl, (by show (0 : Int) < 1 + y0; omega), ?_⟩⟩
                exact ⟨_, _, rfl, rfl, n0, n1, Int.emod_nonneg _ (by omega), Int.emod_lt_of_pos _ (by omega), fun z => far_ne n0 n1 m0 m1 z.symm, fun z => by have := of_decide_eq_true e; omega⟩
              · have e0 : ¬ (1 + y0 - 1 ≤ 0 + (i : Int)) := fun z => e (decide_eq_true z)
                have n0 := Int.emod_nonneg yA (show 0 + (i : Int) + 1 ≠ 0 by omega)
                have n1 := Int.emod_lt_of_pos yA (show 0 < 0 + (i : Int) + 1 by omega)
                exact ⟨_, _, rfl, rfl, n0, by omega, by omega, by omega, by omega, fun _ => ⟨by omega, by omega⟩⟩
            rintro σ H' ⟨near, far, rfl, rfl, a0, a1, b0, b1, ne, lk⟩
            refine ⟨mid3 c most extra longest odd p1 r y0 many nl dl i (2 + most + (0 + (i : Int)) * (4 + longest + 1)) v4 H', ?_, ?_⟩
            · refine ⟨_, rfl, _, rfl, _, _, rfl, rfl, r, _, _, _, rfl, rfl, SqL.of hrow7, hyC, rfl, _, rfl, ite2 (fun _ => ?_) (fun _ => ?_)⟩
              · refine ⟨_, rfl, _, rfl, _, _, rfl, ?_⟩
                exact ⟨_, _, rfl, rfl, b0, b1, a0, a1, ne.symm, fun z => .inr (lk z)⟩
              · exact ⟨_, _, rfl, rfl, a0, a1, b0, b1, ne, fun z => .inl (lk z)⟩
            clear lk ne a0 a1 b0 b1 near far
            rintro σ H8 ⟨near, far, rfl, rfl, a0, a1, b0, b1, ne, lk⟩
            refine ⟨_, rfl, _, rfl, _, _, rfl, rfl, _, rfl, r, row, _, _, rfl, SqL.of hrow7, (hA 4 (by omega) (by omega)).1, (by have := (hA (4 + longest) (by omega) (by omega)).2; omega), hL2, hL20, fun cyc H9 hc hcl s9 => ?_⟩
            refine ⟨mid4 c most extra longest odd p1 r y0 many nl dl i (2 + most + (0 + (i : Int)) * (4 + longest + 1)) near far H8, ?_, ?_⟩
            · refine ⟨_, rfl, odd, rfl, ite2 (fun _ => ?_) (fun _ => ?_)⟩
              · refine ⟨_, rfl, _, rfl, _, _, rfl, rfl, _, rfl, r, row, _, _, rfl, SqL.of (s9 _ _ hrow7), (hA 4 (by omega) (by omega)).1, (by have := (hA (4 + longest) (by omega) (by omega)).2; omega), hL2, hL20, fun cyc2 H10 hc2 hcl2 s10 => ?_⟩
                exact ⟨cyc2, rfl, s9.trans s10, hc2, hcl2⟩
              · exact ⟨cyc, rfl, s9, hc, hcl⟩
            clear hc hcl s9 cyc H9
            rintro σ H9 ⟨cyc, rfl, s9, hc, hcl⟩
            have hD9 : H9 dl = some (.lst refs) := s9 _ _ hD
            have hN9 : H9 nl = some (.lst (xs.map V.int)) := s9 _ _ hN7
            have hrl : refs.length = i := by rw [a2.len, tr.len]
            have pE : 0 < (refs.length : Int) + 1 := by omega
            have n0 := Int.emod_nonneg yE (show (refs.length : Int) + 1 ≠ 0 by omega)
            have n1 := Int.emod_lt_of_pos yE pE
            obtain ⟨na, ea, ea2, na0, na1⟩ := nm.get a0 (by omega)
            obtain ⟨nb, eb, eb2, nb0, nb1⟩ := nm.get b0 (by omega)
            refine ⟨_, rfl, .inl ⟨rfl, _, SqL.of hD9⟩, _, rfl, _, rfl, _, _, rfl, rfl, r, _, _, _, rfl, rfl, SqL.of (s9 _ _ hrow7), hyE, _, rfl, dl, _, rfl, .inl (SqL.of hD9), _, _, rfl, rfl, _, _, rfl, rfl, pE, .inl ⟨_, rfl, ?_⟩⟩
            refine ⟨_, rfl, _, rfl, nl, _, _, _, rfl, rfl, SqL.of hN9, ea, _, rfl, _, rfl, nl, _, _, _, rfl, rfl, SqL.of hN9, eb, _, rfl, (by show 3 ≤ sizeLine; decide), fun tp htp => ?_⟩
            refine ⟨dl, _, _, _, rfl, rfl, nk hD9 htp, small1000 (by omega), n0, by omega, ?_⟩
            have hdl0 : H6 dl = none := hdl
            have s10 : Same H6 H9 := s7.trans s9
            refine ⟨_, _, _, _, _, _, _, rfl, same_upd (same_upd s10 (s10.free htp)) hdl0, upd_same, All2.ins _ ?_ ⟨tp, rfl, ?_⟩, tr.more _ ⟨na0, by omega⟩ ⟨nb0, by omega⟩ (nm.ne ea2 eb2 (by omega)) hc hcl ?_⟩
            · exact ((a2.imp (fun v d q => q.same s9)).imp (IsDoor.keep (by rw [htp]; intro _ q; cases q))).imp (IsDoor.keep (by rw [nk hD9 htp]; intro _ q; cases q))
            · rw [upd_ne (fun q => by rw [q, hD9] at htp; cases htp), upd_same]
            · intro y hy
              have hil : i + 1 < xs.length := (List.getElem?_eq_some_iff.mp hy).1
              rw [nm.len] at hil
              rcases lk (by omega) with ⟨f1, f2⟩ | ⟨f1, f2⟩
              · refine ⟨near.toNat, na, by omega, ea2, .inl ⟨rfl, ?_⟩⟩
                have e : far.toNat = i + 1 := by omega
                rw [e, hy] at eb2
                exact (Option.some.inj eb2).symm
              · refine ⟨far.toNat, nb, by omega, eb2, .inr ⟨?_, rfl⟩⟩
                have e : near.toNat = i + 1 := by omega
                rw [e, hy] at ea2
                exact (Option.some.inj ea2).symm
          · rintro σ H7 ⟨ds, refs, vk3, v1, v2, v3, v4, rfl, s7, hD, a2, tr⟩
            refine ⟨_, rfl, _, rfl, (by show 2 ≤ sizeLine; decide), fun tp htp => ?_⟩
            have sE : Same H H7 := s5.trans (s6.trans s7)
            refine kQ (1 + y0) ds _ tp dl refs (tr.good (by omega) (by omega) nm (by omega) (by omega) (by omega)) (by omega) (fun d hd => (tr.cyc d hd).2) (fun q => ?_) (same_upd sE (sE.free htp)) (sE.free htp) ((s5.trans s6).free hdl) upd_same (nk hD htp) (a2.imp fun v d q => q.same (same_new htp))
            have z : ds.length = 0 := by
              rw [tr.len]
              have := g3 (by omega)
              omega
            exact List.length_eq_zero_iff.mp z
end
end Lh
set_option Elab.async false
set_option linter.all false
set_option maxRecDepth 100000
set_option maxHeartbeats 8000000
namespace Lh
open PySem PySem.Spec PyProof.Rows L2 SX
/-- a cycle of a guild's letters -/
def spGCyc (K : PySem.W.Frag) : Sp := fun vs H Q _ => ∃ (r : Addr) (row : List Int) (a m : Int) (g : List Nat), vs = [.ref r, .int a, .str (S g), .int m] ∧ SqL K H r (row.map V.int) ∧ 0 ≤ a ∧ a + g.length + 3 * m < row.length ∧ 0 ≤ m ∧ m ≤ 4 ∧ GuildOk g ∧
  ∀ (l : List Nat) (H' : Hp), CycOk g l → (l.length : Int) ≤ g.length + 2 * m → Same H H' → Q (.str (S l)) H'
section
variable {P : Program} {w : World} {K : PySem.W.Frag} {mg : Str → Option Value} {base : Heap}
theorem scGC : FnScope ["_law_row_here", "_law_at", "_law_guild_here", "_law_pairs", "_law_letters", "_law_k", "_law_letter"] ["_law_row_here", "_law_at", "_law_guild_here", "_law_pairs"] (defScope (top 61)) := ⟨rfl, rfl, rfl, by decide +kernel, rfl, by decide +kernel, by decide +kernel⟩
def gcA (r : Addr) (a : Int) (g : List Nat) (m : Int) (nl : Addr) (H : Hp) (i : Nat) (σ : L2.St) (H' : Hp) : Prop := ∃ (ls : List Nat) (vk : Option V),
  σ = [some (.ref r), some (.int a), some (.str (S g)), some (.int m), some (.ref nl), vk, none] ∧ Same H H' ∧ H' nl = some (.lst (ls.map let1)) ∧ ls.length = i ∧ ∀ c, c ∈ ls ↔ c ∈ g.take i
theorem gcA_of {r : Addr} {a : Int} {g : List Nat} {m : Int} {nl : Addr} {H H' : Hp} {i : Nat} {ls : List Nat} {vs : List V} (vk : Option V) (s : Same H H') (h : H' nl = some (.lst vs)) (e : vs = ls.map let1) (hl : ls.length = i) (hm : ∀ c, c ∈ ls ↔ c ∈ g.take i) :
    gcA r a g m nl H i [some (.ref r), some (.int a), some (.str (S g)), some (.int m), some (.ref nl), vk, none] H' := ⟨ls, vk, rfl, s, by rw [h, e], hl, hm⟩
def gcB (r : Addr) (a : Int) (g : List Nat) (m : Int) (nl : Addr) (H : Hp) (i : Nat) (σ : L2.St) (H' : Hp) : Prop := ∃ (ls : List Nat) (vk v6 : Option V),
  σ = [some (.ref r), some (.int a), some (.str (S g)), some (.int m), some (.ref nl), vk, v6] ∧ Same H H' ∧ H' nl = some (.lst (ls.map let1)) ∧ ls.length = g.length + 2 * i ∧ CycOk g ls
theorem gcB_of {r : Addr} {a : Int} {g : List Nat} {m : Int} {nl : Addr} {H H' : Hp} {i : Nat} {ls : List Nat} {vs : List V} (vk v6 : Option V) (s : Same H H') (h : H' nl = some (.lst vs)) (e : vs = ls.map let1) (hl : ls.length = g.length + 2 * i) (hc : CycOk g ls) :
    gcB r a g m nl H i [some (.ref r), some (.int a), some (.str (S g)), some (.int m), some (.ref nl), vk, v6] H' := ⟨ls, vk, v6, rfl, s, by rw [h, e], hl, hc⟩
theorem cyc_ins {g l : List Nat} (h : CycOk g l) {c : Nat} (hc : c ∈ g) (n : Nat) : CycOk g (l.take n ++ [c] ++ l.drop n) :=
  ⟨fun x hx => by
    rcases ins_mem.mp hx with rfl | q
    · exact hc
    · exact h.1 x q, fun x hx => ins_mem.mpr (.inr (h.2 x hx))⟩
theorem ok_gcyc (B : Blt mg) (D : Dfn K mg "_law_guild_cycle" (top 61)) : Cal P w K mg base CX0 1 "_law_guild_cycle" ["_law_row_here", "_law_at", "_law_guild_here", "_law_pairs"] (spGCyc K) := by
  have S' := scGC
  refine D.cal0 scGC (fun vs H Q E h => ?_) (fun _ _ _ _ _ _ us hl => match us, hl with | [_, _, _, _], _ => rfl) (fun f cdv A outer s H vs Q E hr h => ?_)
  · obtain ⟨r, row, a, m, g, rfl, _⟩ := h
    rfl
  · obtain ⟨r, row, a, m, g, rfl, hS, ha, ham, hm0, hm4, gok, kQ⟩ := h
    have g2 := gok.two
    have g5 := gok.five
    refine ⟨_, (pss_cons (ps_set (i := 4) S'.nd rfl (Or.inl rfl) (pe_lst pa_nil))
 (pss_cons (ps_for PassesOwn.never rfl (pi_range1 rfl B.range (pa_cons (pe_callB call_len_str (by rfl) B.len PySem.boot_len (pa_cons (pv 2) pa_nil)) pa_nil)) (pg_name (i := 5) S'.nd rfl (Or.inl rfl))
  (pss_one (ps_expr (pe_bm PySem.F.plainAttrs_list PySem.F.slot_list_insert PySem.F.type_list_insert mt_insert (pv 4) (pa_cons (pe_callTy call_int1 (by rfl) B.int (by decide +kernel) (pa_cons (pe_op op_mod (pe_ix ix_list (pv 0) (pe_op op_add (pv 1) (pv 5)) (fun _ _ => rfl)) (pe_op op_add (pe_callB call_len_seq (by rfl) B.len PySem.boot_len (pa_cons (pv 4) pa_nil)) pe_int)) pa_nil)) (pa_cons (pe_ix ix_str (pv 2) (pv 5) (fun _ _ => rfl)) pa_nil))))))
 (pss_cons (ps_set (i := 1) S'.nd rfl (Or.inl rfl) (pe_op op_add (pv 1) (pe_callB call_len_str (by rfl) B.len PySem.boot_len (pa_cons (pv 2) pa_nil))))
 (pss_cons (ps_for PassesOwn.never rfl (pi_range1 rfl B.range (pa_cons (pe_callTy call_int1 (by rfl) B.int (by decide +kernel) (pa_cons (pe_op op_mod (pe_ix ix_list (pv 0) (pv 1) (fun _ _ => rfl)) (pe_op op_add (pv 3) pe_int)) pa_nil)) pa_nil)) (pg_name (i := 5) S'.nd rfl (Or.inl rfl))
  (pss_cons (ps_set (i := 6) S'.nd rfl (Or.inl rfl) (pe_ix ix_str (pv 2) (pe_op op_mod (pe_callTy call_int1 (by rfl) B.int (by decide +kernel) (pa_cons (pe_ix ix_list (pv 0) (pe_op op_add (pe_op op_add (pv 1) pe_int) (pe_op op_mul pe_int (pv 5))) (fun _ _ => rfl)) pa_nil)) (pe_callB call_len_str (by rfl) B.len PySem.boot_len (pa_cons (pv 2) pa_nil))) (fun _ _ => rfl)))
 (pss_cons (ps_expr (pe_bm PySem.F.plainAttrs_list PySem.F.slot_list_insert PySem.F.type_list_insert mt_insert (pv 4) (pa_cons (pe_callTy call_int1 (by rfl) B.int (by decide +kernel) (pa_cons (pe_op op_mod (pe_ix ix_list (pv 0) (pe_op op_add (pe_op op_add (pv 1) pe_int) (pe_op op_mul pe_int (pv 5))) (fun _ _ => rfl)) (pe_op op_add (pe_callB call_len_seq (by rfl) B.len PySem.boot_len (pa_cons (pv 4) pa_nil)) pe_int)) pa_nil)) (pa_cons (pv 6) pa_nil))))
 (pss_one (ps_expr (pe_bm PySem.F.plainAttrs_list PySem.F.slot_list_insert PySem.F.type_list_insert mt_insert (pv 4) (pa_cons (pe_callTy call_int1 (by rfl) B.int (by decide +kernel) (pa_cons (pe_op op_mod (pe_ix ix_list (pv 0) (pe_op op_add (pe_op op_add (pv 1) pe_int) (pe_op op_mul pe_int (pv 5))) (fun _ _ => rfl)) (pe_op op_add (pe_callB call_len_seq (by rfl) B.len PySem.boot_len (pa_cons (pv 4) pa_nil)) pe_int)) pa_nil)) (pa_cons (pv 6) pa_nil))))))))
 (pss_one (ps_ret (pe_join pe_str (pv 4)))))))), ?_⟩
    refine ⟨Nat.zero_le _, fun nl hnl => ?_⟩
    have s1 : Same H (upd H nl (.lst [])) := same_new hnl
    refine ⟨_, rfl, _, rfl, S_le (by omega), _, rfl, ?_, ?_, for_range (lo := 0) (n := g.length) (gcA r a g m nl H) (gcA_of (ls := []) none s1 upd_same rfl rfl (fun c => by simp)) ?_ ?_⟩
    · rw [S_len]; omega
    · rw [S_len]; omega
    · rintro i σ H1 hi ⟨ls, vk, rfl, s2, hL, hll, hmem⟩
      obtain ⟨y, hy, _⟩ := row_at (row := row) (z := a + (0 + (i : Int))) (by omega) (by omega)
      obtain ⟨c, hc, hc2⟩ := str_at (l := g) (z := 0 + (i : Int)) (by omega) (by omega)
      have pE : 0 < ((ls.map let1).length : Int) + 1 := by omega
      have n0 := Int.emod_nonneg y (show ((ls.map let1).length : Int) + 1 ≠ 0 by omega)
      have n1 := Int.emod_lt_of_pos y pE
      have lle : (ls.map let1).length = i := by rw [List.length_map, hll]
      refine ⟨_, rfl, .inl ⟨rfl, _, SqL.of hL⟩, _, rfl, _, rfl, _, rfl, _, _, rfl, rfl, r, _, _, _, rfl, rfl, s2.seq hS, hy, _, rfl, nl, _, rfl, .inl (SqL.of hL), _, _, rfl, rfl, _, _, rfl, rfl, pE, .inl ⟨_, rfl, ?_⟩⟩
      refine ⟨_, rfl, _, rfl, _, _, c, rfl, rfl, S_le (by omega), hc, nl, _, _, _, rfl, rfl, hL, small1000 (by omega), n0, by omega, ?_⟩
      refine gcA_of (ls := ls.take (y % (((ls.map let1).length : Int) + 1)).toNat ++ [c] ++ ls.drop (y % (((ls.map let1).length : Int) + 1)).toNat) _ (same_upd s2 hnl) upd_same (ins_map let1 ls _ _) (by rw [ins_len, hll]) (fun x => ?_)
      have ez : (0 + (i : Int)).toNat = i := by omega
      rw [ez] at hc2
      rw [ins_mem, hmem, List.take_add_one, hc2]
      simp [or_comm]
    · rintro σ H1 ⟨ls, vk, rfl, s2, hL, hll, hmem⟩
      have c0 : CycOk g ls := by
        rw [List.take_length] at hmem
        exact ⟨fun c hc => (hmem c).mp hc, fun c hc => (hmem c).mpr hc⟩
      obtain ⟨y, hy, _⟩ := row_at (row := row) (z := a + ((S g).length : Int)) (by omega) (by rw [S_len]; omega)
      have n0 := Int.emod_nonneg y (show m + 1 ≠ 0 by omega)
      have n1 := Int.emod_lt_of_pos y (show 0 < m + 1 by omega)
      refine ⟨_, rfl, _, rfl, _, rfl, S_le (l := g) (by omega), _, _, rfl, rfl, ?_⟩
      refine ⟨_, rfl, _, rfl, r, _, _, _, rfl, rfl, s2.seq hS, hy, _, rfl, _, _, rfl, rfl, _, _, rfl, rfl, (by show (0 : Int) < m + 1; omega), .inl ⟨_, rfl, _, rfl, by omega, by omega, for_range (lo := 0) (n := _) (gcB r (a + ((S g).length : Int)) g m nl H) (gcB_of _ none s2 hL rfl (by omega) c0) ?_ ?_⟩⟩
      · rintro i σ H2 hi ⟨ls, vk, v6, rfl, s3, hL, hll, cok⟩
        have hi4 : (i : Int) < m := by omega
        obtain ⟨y1, hy1, _⟩ := row_at (row := row) (z := a + ((S g).length : Int) + 1 + 3 * (0 + (i : Int))) (by omega) (by rw [S_len]; omega)
        obtain ⟨y2, hy2, _⟩ := row_at (row := row) (z := a + ((S g).length : Int) + 2 + 3 * (0 + (i : Int))) (by omega) (by rw [S_len]; omega)
        obtain ⟨y3, hy3, _⟩ := row_at (row := row) (z := a + ((S g).length : Int) + 3 + 3 * (0 + (i : Int))) (by omega) (by rw [S_len]; omega)
        have pG : 0 < ((S g).length : Int) := by rw [S_len]; omega
        have k0 := Int.emod_nonneg y1 (show ((S g).length : Int) ≠ 0 by omega)
        have k1 := Int.emod_lt_of_pos y1 pG
        obtain ⟨c, hc, hc2⟩ := str_at (l := g) (z := y1 % ((S g).length : Int)) k0 (by rw [S_len] at k1 ⊢; exact k1)
        have hcg : c ∈ g := List.mem_of_getElem? hc2
        refine ⟨_, rfl, _, rfl, _, rfl, _, _, rfl, rfl, _, rfl, _, _, rfl, rfl, .inl ⟨by decide, by decide⟩, _, _, rfl, rfl, r, _, _, _, rfl, rfl, s3.seq hS, hy1, .inl ⟨_, rfl, _, rfl, _, rfl, S_le (by omega), _, _, rfl, rfl, pG, _, _, c, rfl, rfl, S_le (by omega), hc, ?_⟩⟩
        have lle : (ls.map let1).length = g.length + 2 * i := by rw [List.length_map, hll]
        have pE : 0 < ((ls.map let1).length : Int) + 1 := by omega
        have n0 := Int.emod_nonneg y2 (show ((ls.map let1).length : Int) + 1 ≠ 0 by omega)
        have n1 := Int.emod_lt_of_pos y2 pE
        refine ⟨_, rfl, .inl ⟨rfl, _, SqL.of hL⟩, _, rfl, _, rfl, _, _, rfl, rfl, _, rfl, _, _, rfl, rfl, .inl ⟨by decide, by decide⟩, _, _, rfl, rfl, r, _, _, _, rfl, rfl, s3.seq hS, hy2, _, rfl, nl, _, rfl, .inl (SqL.of hL), _, _, rfl, rfl, _, _, rfl, rfl, pE, .inl ⟨_, rfl, ?_⟩⟩
        refine ⟨_, rfl, nl, _, _, _, rfl, rfl, hL, small1000 (by omega), n0, by omega, ?_⟩
        have s4 := same_upd (o := .lst ((ls.map let1).take (y2 % (((ls.map let1).length : Int) + 1)).toNat ++ [let1 c] ++ (ls.map let1).drop (y2 % (((ls.map let1).length : Int) + 1)).toNat)) s3 hnl
        obtain ⟨ls2, e2⟩ : ∃ ls2, ls2 = ls.take (y2 % (((ls.map let1).length : Int) + 1)).toNat ++ [c] ++ ls.drop (y2 % (((ls.map let1).length : Int) + 1)).toNat := ⟨_, rfl⟩
        have l2 : ls2.length = g.length + 2 * i + 1 := by rw [e2, ins_len, hll]
        have c2 : CycOk g ls2 := by rw [e2]; exact cyc_ins cok hcg _
        have e3 : (ls.map let1).take (y2 % (((ls.map let1).length : Int) + 1)).toNat ++ [let1 c] ++ (ls.map let1).drop (y2 % (((ls.map let1).length : Int) + 1)).toNat = ls2.map let1 := by rw [e2]; exact ins_map let1 ls _ _
        have ll2 : (ls2.map let1).length = g.length + 2 * i + 1 := by rw [List.length_map, l2]
        have pE3 : 0 < ((ls2.map let1).length : Int) + 1 := by omega
        have n03 := Int.emod_nonneg y3 (show ((ls2.map let1).length : Int) + 1 ≠ 0 by omega)
        have n13 := Int.emod_lt_of_pos y3 pE3
        have hL2 : (upd H2 nl (.lst ((ls.map let1).take (y2 % (((ls.map let1).length : Int) + 1)).toNat ++ [let1 c] ++ (ls.map let1).drop (y2 % (((ls.map let1).length : Int) + 1)).toNat))) nl = some (.lst (ls2.map let1)) := by rw [upd_same, e3]
        refine ⟨_, rfl, .inl ⟨rfl, _, SqL.of hL2⟩, _, rfl, _, rfl, _, _, rfl, rfl, _, rfl, _, _, rfl, rfl, .inl ⟨by decide, by decide⟩, _, _, rfl, rfl, r, _, _, _, rfl, rfl, s4.seq hS, hy3, _, rfl, nl, _, rfl, .inl (SqL.of hL2), _, _, rfl, rfl, _, _, rfl, rfl, pE3, .inl ⟨_, rfl, ?_⟩⟩
        refine ⟨_, rfl, nl, _, _, _, rfl, rfl, hL2, small1000 (by omega), n03, by omega, ?_⟩
        exact gcB_of (ls := ls2.take (y3 % (((ls2.map let1).length : Int) + 1)).toNat ++ [c] ++ ls2.drop (y3 % (((ls2.map let1).length : Int) + 1)).toNat) _ _ (same_upd s4 hnl) upd_same (ins_map let1 ls2 _ _) (by rw [ins_len, l2]; omega) (cyc_ins c2 hcg _)
      · rintro σ H2 ⟨ls, vk, v6, rfl, s3, hL, hll, cok⟩
        have hL3 : H2 nl = some (.lst (((ls.map fun c => [c]).map S).map V.str)) := by
          rw [hL]
          simp [Function.comp_def]
        refine ⟨⟨_, rfl⟩, _, rfl, _, nl, (ls.map fun c => [c]).map S, rfl, rfl, .inl (SqL.of hL3), ?_, ?_⟩
        · have : (((ls.map fun c => [c]).map S).map (·.length)).sum = ls.length := by
            rw [List.map_map, List.map_map]
            clear hL hL3 hll cok
            induction ls with
            | nil => rfl
            | cons a l ih =>
              rw [List.map_cons, List.sum_cons, ih]
              simp [S_len]
              omega
          rw [this, strE]
          simp [S, Str.length]
          omega
        · rw [strE, join_lets]
          refine kQ ls H2 cok ?_ s3
          omega
end
end Lh
set_option Elab.async false
set_option linter.all false
set_option maxRecDepth 100000
set_option maxHeartbeats 8000000
namespace Lh
open PySem PySem.Spec PyProof.Rows L2 SX
namespace GH
abbrev wG (g : List Nat) (pairs : Int) : Int := 4 + ((S g).length : Int) + 1 + 3 * pairs
/-- a house of a guild's kind: the promise -/
def spGHouse (K : PySem.W.Frag) : Sp := fun vs H Q _ => ∃ (c most extra : Int) (g : List Nat) (pairs : Int), vs = [.int c, .int most, .int extra, .str (S g), .int pairs] ∧ 1 ≤ most ∧ most ≤ 16 ∧ 0 ≤ extra ∧ extra ≤ 9 ∧ GuildOk g ∧ 0 ≤ pairs ∧ pairs ≤ 4 ∧
  ∀ (n : Int) (ds : List Door) (H' : Hp) (t l : Addr) (refs : List V), GoodHouse n g ds → n ≤ most → (∀ d ∈ ds, (d.2.2.length : Int) ≤ g.length + 2 * pairs) → (n = 1 → ds = []) → Same H H' → H t = none → H l = none → H' t = some (.tup [.int n, .ref l]) → H' l = some (.lst refs) → All2 (IsDoor H') refs ds → Q (.ref t) H'
section
variable {P : Program} {w : World} {K : PySem.W.Frag} {mg : Str → Option Value} {base : Heap}
theorem scGH : FnScope ["_law_cell_here", "_law_most", "_law_extra", "_law_guild_here", "_law_pairs", "_law_wide", "_law_sizes", "_law_k", "_law_row_here", "_law_rooms", "_law_many", "_law_names", "_law_doors", "_law_at", "_law_far", "_law_near", "_law_cycle"] ["_law_cell_here", "_law_most", "_law_extra", "_law_guild_here", "_law_pairs"] (defScope (top 60)) := ⟨rfl, rfl, rfl, by decide +kernel, rfl, by decide +kernel, by decide +kernel⟩
abbrev stH (a0 a1 a2 a3 a4 : V) (a5 a6 a7 a8 a9 a10 a11 a12 a13 a14 a15 a16 : Option V) : L2.St := [some a0, some a1, some a2, some a3, some a4, a5, a6, a7, a8, a9, a10, a11, a12, a13, a14, a15, a16]
def inv1 (H : Hp) (c most extra : Int) (g : List Nat) (pairs : Int) (wide : Int) (i : Nat) (σ : L2.St) (H' : Hp) : Prop := ∃ (sz : List Int) (p : Addr) (vk : Option V),
  σ = stH (.int c) (.int most) (.int extra) (.str (S g)) (.int pairs) (some (.int wide)) (some (.ref p)) vk none none none none none none none none none ∧ Same H H' ∧ H p = none ∧ H' p = some (.lst (sz.map V.int)) ∧ SzOk most extra wide i sz
theorem inv1_of {H H' : Hp} {c most extra : Int} {g : List Nat} {pairs : Int} {wide : Int} {i : Nat} {sz : List Int} {p : Addr} {vs : List V} (vk : Option V) (s : Same H H') (hp : H p = none) (h : H' p = some (.lst vs)) (e : vs = sz.map V.int) (k : SzOk most extra wide i sz) :
    inv1 H c most extra g pairs wide i (stH (.int c) (.int most) (.int extra) (.str (S g)) (.int pairs) (some (.int wide)) (some (.ref p)) vk none none none none none none none none none) H' :=
  ⟨sz, p, vk, rfl, s, hp, by rw [h, e], k⟩
/-- the state's slots behind the row of draws -/
abbrev stH2 (c most extra : Int) (g : List Nat) (pairs : Int) (p r : Addr) (rooms : Int) (vk vmany vnames vdoors vat vfar vnear vcyc : Option V) : L2.St :=
  stH (.int c) (.int most) (.int extra) (.str (S g)) (.int pairs) (some (.int (wG g pairs))) (some (.ref p)) vk (some (.ref r)) (some (.int rooms)) vmany vnames vdoors vat vfar vnear vcyc
def mid1 (c most extra : Int) (g : List Nat) (pairs : Int) (p r : Addr) (y0 y1 : Int) (H2 : Hp) (σ : L2.St) (H' : Hp) : Prop := ∃ (many : Int) (vk : Option V),
  σ = stH2 c most extra g pairs p r (1 + y0) vk (some (.int many)) none none none none none none ∧ H' = H2 ∧ 0 ≤ many ∧ many ≤ y0 + y1 ∧ y0 ≤ many ∧ (y0 = 0 → many = 0)
def inv2 (c most extra : Int) (g : List Nat) (pairs : Int) (p r : Addr) (y0 many : Int) (nl : Addr) (H2 : Hp) (i : Nat) (σ : L2.St) (H' : Hp) : Prop := ∃ (xs : List Int) (vk : Option V),
  σ = stH2 c most extra g pairs p r (1 + y0) vk (some (.int many)) (some (.ref nl)) none none none none none ∧ Same H2 H' ∧ H' nl = some (.lst (xs.map V.int)) ∧ Nm i xs
theorem inv2_of {c most extra : Int} {g : List Nat} {pairs : Int} {p r : Addr} {y0 many : Int} {nl : Addr} {H2 H' : Hp} {i : Nat} {xs : List Int} {vs : List V} (vk : Option V) (s : Same H2 H') (h : H' nl = some (.lst vs)) (e : vs = xs.map V.int) (n : Nm i xs) :
    inv2 c most extra g pairs p r y0 many nl H2 i (stH2 c most extra g pairs p r (1 + y0) vk (some (.int many)) (some (.ref nl)) none none none none none) H' := ⟨xs, vk, rfl, s, by rw [h, e], n⟩
def inv3 (c most extra : Int) (g : List Nat) (pairs : Int) (p r : Addr) (y0 many : Int) (nl dl : Addr) (xs : List Int) (H3 : Hp) (i : Nat) (σ : L2.St) (H' : Hp) : Prop := ∃ (ds : List Door) (refs : List V) (vk v1 v2 v3 v4 : Option V),
  σ = stH2 c most extra g pairs p r (1 + y0) vk (some (.int many)) (some (.ref nl)) (some (.ref dl)) v1 v2 v3 v4 ∧ Same H3 H' ∧ H' dl = some (.lst refs) ∧ All2 (IsDoor H') refs ds ∧ Tree (1 + y0) g (g.length + 2 * pairs) xs i ds
def mid2 (c most extra : Int) (g : List Nat) (pairs : Int) (p r : Addr) (y0 many : Int) (nl dl : Addr) (k : Nat) (a : Int) (v4 : Option V) (Hc : Hp) (σ : L2.St) (H' : Hp) : Prop := ∃ near far : Int,
  σ = stH2 c most extra g pairs p r (1 + y0) (some (.int (0 + (k : Int)))) (some (.int many)) (some (.ref nl)) (some (.ref dl)) (some (.int a)) (some (.int far)) (some (.int near)) v4 ∧ H' = Hc ∧
  0 ≤ near ∧ near < 1 + y0 ∧ 0 ≤ far ∧ far < 1 + y0 ∧ near ≠ far ∧ ((k : Int) + 1 < 1 + y0 → far = k + 1 ∧ near ≤ k)
def mid3 (c most extra : Int) (g : List Nat) (pairs : Int) (p r : Addr) (y0 many : Int) (nl dl : Addr) (k : Nat) (a : Int) (v4 : Option V) (Hc : Hp) (σ : L2.St) (H' : Hp) : Prop := ∃ near far : Int,
  σ = stH2 c most extra g pairs p r (1 + y0) (some (.int (0 + (k : Int)))) (some (.int many)) (some (.ref nl)) (some (.ref dl)) (some (.int a)) (some (.int far)) (some (.int near)) v4 ∧ H' = Hc ∧
  0 ≤ near ∧ near < 1 + y0 ∧ 0 ≤ far ∧ far < 1 + y0 ∧ near ≠ far ∧ ((k : Int) + 1 < 1 + y0 → (far = k + 1 ∧ near ≤ k) ∨ (near = k + 1 ∧ far ≤ k))
def mid4 (c most extra : Int) (g : List Nat) (pairs : Int) (p r : Addr) (y0 many : Int) (nl dl : Addr) (k : Nat) (a near far : Int) (Hc : Hp) (σ : L2.St) (H' : Hp) : Prop := ∃ cyc : List Nat,
  σ = stH2 c most extra g pairs p r (1 + y0) (some (.int (0 + (k : Int)))) (some (.int many)) (some (.ref nl)) (some (.ref dl)) (some (.int a)) (some (.int far)) (some (.int near)) (some (.str (S cyc))) ∧ Same Hc H' ∧ CycOk g cyc ∧ (cyc.length : Int) ≤ g.length + 2 * pairs
theorem ok_ghouse (B : Blt mg) (D : Dfn K mg "_law_guild_house" (top 60)) (c_law_row : Cal P w K mg base CX0 1 "_law_row" ["_law_cell_here", "_law_sizes"] (spRow K))
    (c_law_guild_cycle : Cal P w K mg base CX0 1 "_law_guild_cycle" ["_law_row_here", "_law_at", "_law_guild_here", "_law_pairs"] (spGCyc K)) : Cal P w K mg base CX0 2 "_law_guild_house" ["_law_cell_here", "_law_most", "_law_extra", "_law_guild_here", "_law_pairs"] (spGHouse K) := by
  have S' := scGH
  refine D.cal0 scGH (fun vs H Q E h => ?_) (fun _ _ _ _ _ _ us hl => match us, hl with | [_, _, _, _, _], _ => rfl) (fun f cdv A outer s H vs Q E hr h => ?_)
  · obtain ⟨c, most, extra, g, pairs, rfl, _⟩ := h
    rfl
  · obtain ⟨c, most, extra, g, pairs, rfl, hm1, hm16, he0, he9, gok, hp0, hp4, kQ⟩ := h
    have g2 := gok.two
    have g5 := gok.five
    have hsl : ((S g).length : Int) = g.length := by rw [S_len]
    have hsS : (S g).length ≤ sizeLine := S_le (by omega)
    obtain ⟨L, hL⟩ : ∃ L : Int, L = g.length + 3 * pairs := ⟨_, rfl⟩
    have hwG : wG g pairs = 5 + L := by show 4 + ((S g).length : Int) + 1 + 3 * pairs = _; omega
    refine ⟨_, (pss_cons (ps_set (i := 5) S'.nd rfl (Or.inl rfl) (pe_op op_add (pe_op op_add (pe_op op_add pe_int (pe_callB call_len_str (by rfl) B.len PySem.boot_len (pa_cons (pv 3) pa_nil))) pe_int) (pe_op op_mul pe_int (pv 4))))
 (pss_cons (ps_set (i := 6) S'.nd rfl (Or.inl rfl) (pe_op op_cat (pe_lst (pa_cons (pv 1) (pa_cons (pe_op op_add (pv 2) pe_int) pa_nil))) (pe_lc (own := [("_law_k", 7)]) (g := gName 7) (by rfl) S'.nd (pi_range1 rfl B.range (pa_cons (pv 1) pa_nil)) (blkOk_by (N := ["_law_cell_here", "_law_most", "_law_extra", "_law_guild_here", "_law_pairs", "_law_wide", "_law_sizes", "_law_k", "_law_row_here", "_law_rooms", "_law_many", "_law_names", "_law_doors", "_law_at", "_law_far", "_law_near", "_law_cycle"]) (sc := defScope (top 60)) (by decide +kernel)) (fun _ _ _ _ _ => (pg_name (i := 7) S'.nd rfl (Or.inl rfl))) (fun _ _ _ _ _ => pts_nil) (fun _ _ _ _ _ => (pe_op op_add (pv 7) pe_int)))))
 (pss_cons (ps_for PassesOwn.never rfl (pi_range1 rfl B.range (pa_cons (pe_op op_add (pe_op op_sub (pv 1) pe_int) (pv 2)) pa_nil)) (pg_name (i := 7) S'.nd rfl (Or.inl rfl))
  (pss_one (ps_set (i := 6) S'.nd rfl (Or.inl rfl) (pe_op op_cat (pe_op op_cat (pv 6) (pe_lst (pa_cons (pv 1) (pa_cons (pv 1) (pa_cons pe_int (pa_cons (pe_op op_add (pv 1) (pv 2)) pa_nil)))))) (pe_op op_rep (pe_lst (pa_cons pe_int pa_nil)) (pe_op op_add (pe_op op_add (pe_callB call_len_str (by rfl) B.len PySem.boot_len (pa_cons (pv 3) pa_nil)) pe_int) (pe_op op_mul pe_int (pv 4))))))))
 (pss_cons (ps_set (i := 8) S'.nd rfl (Or.inl rfl) (pcl c_law_row hr (pa_cons (pv 0) (pa_cons (pv 6) pa_nil))))
 (pss_cons (ps_set (i := 9) S'.nd rfl (Or.inl rfl) (pe_op op_add pe_int (pe_ix ix_list (pv 8) pe_int (fun _ _ => rfl))))
 (pss_cons (ps_set (i := 10) S'.nd rfl (Or.inl rfl) (pe_op op_add (pe_op op_sub (pv 9) pe_int) (pe_ix ix_list (pv 8) pe_int (fun _ _ => rfl))))
 (C8.pss_cut (ps_if (pt_cmpR op_eq (pv 9) pe_int (nomark _)) (pss_one (ps_set (i := 10) S'.nd rfl (Or.inl rfl) pe_int)) pss_nil)
 (pss_cons (ps_set (i := 11) S'.nd rfl (Or.inl rfl) (pe_lst pa_nil))
 (pss_cons (ps_for PassesOwn.never rfl (pi_range1 rfl B.range (pa_cons (pv 9) pa_nil)) (pg_name (i := 7) S'.nd rfl (Or.inl rfl))
  (pss_one (ps_expr (pe_bm PySem.F.plainAttrs_list PySem.F.slot_list_insert PySem.F.type_list_insert mt_insert (pv 11) (pa_cons (pe_ix ix_list (pv 8) (pe_op op_add pe_int (pv 7)) (fun _ _ => rfl)) (pa_cons (pv 7) pa_nil))))))
 (pss_cons (ps_set (i := 12) S'.nd rfl (Or.inl rfl) (pe_lst pa_nil))
 (pss_cons (ps_for PassesOwn.never rfl (pi_range1 rfl B.range (pa_cons (pv 10) pa_nil)) (pg_name (i := 7) S'.nd rfl (Or.inl rfl))
  (pss_cons (ps_set (i := 13) S'.nd rfl (Or.inl rfl) (pe_op op_add (pe_op op_add pe_int (pv 1)) (pe_op op_mul (pv 7) (pv 5))))
 (pss_cons (ps_set (i := 14) S'.nd rfl (Or.inl rfl) (pe_op op_add (pv 7) pe_int))
 (pss_cons (ps_set (i := 15) S'.nd rfl (Or.inl rfl) (pe_callTy call_int1 (by rfl) B.int (by decide +kernel) (pa_cons (pe_op op_mod (pe_ix ix_list (pv 8) (pv 13) (fun _ _ => rfl)) (pv 14)) pa_nil)))
 (C8.pss_cut (ps_if (pt_cmpR op_ge (pv 7) (pe_op op_sub (pv 9) pe_int) (nomark _)) (pss_cons (ps_set (i := 15) S'.nd rfl (Or.inl rfl) (pe_callTy call_int1 (by rfl) B.int (by decide +kernel) (pa_cons (pe_op op_mod (pe_ix ix_list (pv 8) (pv 13) (fun _ _ => rfl)) (pv 9)) pa_nil)))
 (pss_one (ps_set (i := 14) S'.nd rfl (Or.inl rfl) (pe_op op_mod (pe_callTy call_int1 (by rfl) B.int (by decide +kernel) (pa_cons (pe_op op_add (pe_op op_add (pv 15) pe_int) (pe_op op_mod (pe_ix ix_list (pv 8) (pe_op op_add (pv 13) pe_int) (fun _ _ => rfl)) (pe_op op_sub (pv 9) pe_int))) pa_nil)) (pv 9))))) pss_nil)
 (C8.pss_cut (ps_if (pt_cmpR op_eq (pe_ix ix_list (pv 8) (pe_op op_add (pv 13) pe_int) (fun _ _ => rfl)) pe_int (nomark _)) (pss_one (ps_par (i := 15) (j := 14) (by rfl) S'.nd rfl rfl (by decide) rfl rfl (pa_cons (pv 14) (pa_cons (pv 15) pa_nil)) (by rfl))) pss_nil)
 (pss_cons (ps_set (i := 16) S'.nd rfl (Or.inl rfl) (pcl c_law_guild_cycle hr (pa_cons (pv 8) (pa_cons (pe_op op_add (pv 13) pe_int) (pa_cons (pv 3) (pa_cons (pv 4) pa_nil))))))
 (pss_one (ps_expr (pe_bm PySem.F.plainAttrs_list PySem.F.slot_list_insert PySem.F.type_list_insert mt_insert (pv 12) (pa_cons (pe_callTy call_int1 (by rfl) B.int (by decide +kernel) (pa_cons (pe_op op_mod (pe_ix ix_list (pv 8) (pe_op op_add (pv 13) pe_int) (fun _ _ => rfl)) (pe_op op_add (pe_callB call_len_seq (by rfl) B.len PySem.boot_len (pa_cons (pv 12) pa_nil)) pe_int)) pa_nil)) (pa_cons (pe_tup (pa_cons (pe_ix ix_list (pv 11) (pv 15) (fun _ _ => rfl)) (pa_cons (pe_ix ix_list (pv 11) (pv 14) (fun _ _ => rfl)) (pa_cons (pv 16) pa_nil)))) pa_nil))))))))))))
 (pss_one (ps_ret (pe_tup (pa_cons (pv 9) (pa_cons (pv 12) pa_nil)))))))))))))))), ?_⟩
    refine ⟨_, rfl, _, rfl, hsS, _, _, rfl, rfl, _, _, rfl, rfl, _, rfl, _, _, rfl, rfl, .inl ⟨by decide, by decide⟩, _, _, rfl, rfl, ?_⟩
    refine ⟨_, rfl, _, rfl, _, _, rfl, rfl, (by show 2 ≤ sizeLine; decide), fun l1 hl1 => ?_⟩
    have s1 : Same H (upd H l1 (.lst [.int most, .int (extra + 1)])) := same_new hl1
    refine ⟨_, rfl, _, rfl, by omega, by omega, fun D hD => lc_range (lo := 0) (n := _) (fun i H' => H' = upd (upd H l1 (.lst [.int most, .int (extra + 1)])) D (.lst (List.map (fun k : Nat => V.int ((k : Int) + 1)) (List.range i)))) rfl ?_ ?_⟩
    · rintro i H' hi rfl
      refine ⟨rfl, _, rfl, _, _, rfl, rfl, _, upd_same, ?_, ?_⟩
      · rw [List.length_map, List.length_range]
        exact small1000 (by omega)
      · rw [upd_upd, List.range_succ, List.map_append, Int.zero_add]
        rfl
    · rintro H' rfl
      refine ⟨l1, D, _, _, rfl, rfl, nk upd_same hD, upd_same, ?_, fun p hp => ?_⟩
      · rw [List.length_map, List.length_range]
        show 2 + most.toNat ≤ sizeLine
        exact Nat.le_of_lt (small1000 (by omega))
      have s2 := same_upd (o := .lst ([.int most, .int (extra + 1)] ++ List.map (fun k : Nat => V.int ((k : Int) + 1)) (List.range most.toNat))) (same_upd (o := .lst (List.map (fun k : Nat => V.int ((k : Int) + 1)) (List.range most.toNat))) s1 (s1.free hD)) ((same_upd s1 (s1.free hD)).free hp)
      refine ⟨_, rfl, _, _, rfl, rfl, _, rfl, _, _, rfl, rfl, _, rfl, by omega, by omega, for_range (lo := 0) (n := _) (inv1 H c most extra g pairs (wG g pairs))
        (inv1_of none s2 ((same_upd s1 (s1.free hD)).free hp) upd_same (by simp [sz0, Function.comp_def]) (SzOk.start hm1 hm16 he0 he9)) ?_ ?_⟩
      · rintro i σ H' hi ⟨sz, p1, vk, rfl, s3, hp1, hL1, ok1⟩
        have hszl : sz.length ≤ 700 := ok1.le hm16 (by omega) (by rw [hwG]; omega) (by rw [hwG]; omega)
        refine ⟨_, rfl, _, rfl, _, rfl, _, rfl, _, rfl, _, _, rfl, rfl, (by show 4 ≤ sizeLine; decide), fun q1 hq1 => ?_⟩
        refine ⟨p1, q1, _, _, rfl, rfl, nk hL1 hq1, upd_same, ?_, fun q2 hq2 => ?_⟩
        · rw [List.length_map]
          show sz.length + 4 ≤ sizeLine
          exact Nat.le_of_lt (small1000 (by omega))
        have t1 := same_upd (o := .lst [.int most, .int most, .int 2, .int (most + extra)]) s3 (s3.free hq1)
        have t2 := same_upd (o := .lst (List.map V.int sz ++ [.int most, .int most, .int 2, .int (most + extra)])) t1 (t1.free hq2)
        refine ⟨(by show 1 ≤ sizeLine; decide), fun q3 hq3 => ?_⟩
        have t3 := same_upd (o := .lst [.int 60]) t2 (t2.free hq3)
        refine ⟨_, rfl, _, rfl, hsS, _, _, rfl, rfl, _, rfl, _, _, rfl, rfl, .inl ⟨by decide, by decide⟩, _, _, rfl, rfl, q3, _, _, rfl, rfl, upd_same, by omega, by omega, ?_, fun q4 hq4 => ?_⟩
        · show 1 * (((S g).length : Int) + 1 + 3 * pairs).toNat ≤ sizeLine
          exact Nat.le_of_lt (small1000 (by omega))
        have t4 := same_upd (o := .lst (List.replicate (((S g).length : Int) + 1 + 3 * pairs).toNat [V.int 60]).flatten) t3 (t3.free hq4)
        refine ⟨q2, q4, _, _, rfl, rfl, nk (nk upd_same hq3) hq4, upd_same, ?_, fun q5 hq5 => ?_⟩
        · rw [List.length_append, List.length_map, List.flatten_replicate_singleton, List.length_replicate]
          show sz.length + 4 + (((S g).length : Int) + 1 + 3 * pairs).toNat ≤ sizeLine
          exact Nat.le_of_lt (small1000 (by omega))
        refine inv1_of (sz := sz ++ ([most, most, 2, most + extra] ++ List.replicate (((S g).length : Int) + 1 + 3 * pairs).toNat 60)) _ (same_upd t4 (t4.free hq5)) (t4.free hq5) upd_same ?_ (ok1.more _ ?_ ?_)
        · rw [List.flatten_replicate_singleton]
          simp
        · rw [hwG]
          simp
          omega
        · intro n hn
          simp at hn
          omega
      · rintro σ H' ⟨sz, p1, vk, rfl, s3, hp1, hL1, ok1⟩
        have hszl : sz.length ≤ 700 := ok1.le hm16 (by omega) (by rw [hwG]; omega) (by rw [hwG]; omega)
        refine ⟨_, rfl, _, rfl, c, p1, sz, rfl, SqL.of hL1, by omega, ok1.pos, fun row H2 r rok s4 hr0 hrow => ?_⟩
        have s5 := s3.trans s4
        have hrH : H r = none := s3.free hr0
        obtain ⟨y0, ey0, b0, b0'⟩ := rok.get ok1.z0
        obtain ⟨y1, ey1, b1, b1'⟩ := rok.get ok1.z1
        refine ⟨_, rfl, r, _, _, _, rfl, rfl, SqL.of hrow, at_of (j := 0) rfl (map_get ey0), _, _, rfl, rfl, ?_⟩
        refine ⟨_, rfl, _, _, rfl, rfl, _, rfl, r, _, _, _, rfl, rfl, SqL.of hrow, at_of (j := 1) rfl (map_get ey1), _, _, rfl, rfl, ?_⟩
        refine ⟨mid1 c most extra g pairs p1 r y0 y1 H2, ?_, ?_⟩
        · refine ⟨_, rfl, rfl, _, rfl, ite2 (fun e => ?_) (fun e => ?_)⟩
          · have e0 := vint e
            exact ⟨0, _, rfl, rfl, by omega, by omega, by omega, fun _ => rfl⟩
          · have e0 := vint_no e
            exact ⟨1 + y0 - 1 + y1, _, rfl, rfl, by omega, by omega, by omega, fun q => by omega⟩
        rintro σ H' ⟨many, vk1, rfl, rfl, g0, g1, g2, g3⟩
        refine ⟨Nat.zero_le _, fun nl hnl => ?_⟩
        refine ⟨_, rfl, _, rfl, by omega, by omega, for_range (lo := 0) (n := _) (inv2 c most extra g pairs p1 r y0 many nl H') (inv2_of _ (same_new hnl) upd_same rfl Nm.nil) ?_ ?_⟩
        · rintro i σ H6 hi ⟨xs, vk2, rfl, s6, hN, nm⟩
          obtain ⟨y, ey, by0, by1⟩ := rok.get (ok1.zk i (by omega))
          refine ⟨_, rfl, .inl ⟨rfl, _, SqL.of hN⟩, _, rfl, _, rfl, _, _, rfl, rfl, r, _, _, _, rfl, rfl, SqL.of (s6 _ _ hrow), at_of (j := 2 + i) (by omega) (map_get ey), _, rfl, nl, _, _, _, rfl, rfl, hN, ?_, by omega, by omega, ?_⟩
          · rw [List.length_map, nm.len]
            exact small1000 (by omega)
          · refine inv2_of (xs := xs.take y.toNat ++ [(i : Int)] ++ xs.drop y.toNat) _ (same_upd s6 hnl) upd_same ?_ (nm.more _)
            rw [Int.zero_add]
            exact ins_map V.int xs _ _
        · rintro σ H6 ⟨xs, vk2, rfl, s6, hN, nm0⟩
          have nm : Nm (1 + y0).toNat xs := nm0
          refine ⟨Nat.zero_le _, fun dl hdl => ?_⟩
          refine ⟨_, rfl, _, rfl, by omega, by omega, for_range (lo := 0) (n := _) (inv3 c most extra g pairs p1 r y0 many nl dl xs H6) ⟨[], [], _, _, _, _, _, rfl, same_new hdl, upd_same, .nil, .nil⟩ ?_ ?_⟩
          · rintro i σ H7 hi ⟨ds, refs, vk3, v1, v2, v3, v4, rfl, s7, hD, a2, tr⟩
            have hrow7 : H7 r = some (.lst (row.map V.int)) := s7 _ _ (s6 _ _ hrow)
            have hN7 : H7 nl = some (.lst (xs.map V.int)) := s7 _ _ hN
            have hA : ∀ j : Int, 0 ≤ j → j ≤ 4 + L → 0 ≤ (2 + most + (0 + (i : Int)) * (wG g pairs)) + j ∧ (2 + most + (0 + (i : Int)) * (wG g pairs)) + j < row.length := fun j j0 j1 => by
              have el := ok1.len
              have er := rok.1
              have q : ((i : Int) + 1) * (wG g pairs) ≤ ((most - 1 + extra).toNat : Int) * (wG g pairs) := Int.mul_le_mul_of_nonneg_right (by omega) (by omega)
              rw [Int.add_mul, Int.one_mul] at q
              have q0 : 0 ≤ (i : Int) * (wG g pairs) := Int.mul_nonneg (by omega) (by omega)
              rw [Int.zero_add]
              omega
            obtain ⟨yA, hyA, _⟩ := row_at (row := row) (z := (2 + most + (0 + (i : Int)) * (wG g pairs))) (by have := hA 0 (by omega) (by omega); omega) (by have := hA 0 (by omega) (by omega); omega)
            obtain ⟨yB, hyB, _⟩ := row_at (row := row) (z := (2 + most + (0 + (i : Int)) * (wG g pairs)) + 1) (hA 1 (by omega) (by omega)).1 (hA 1 (by omega) (by omega)).2
            obtain ⟨yC, hyC, _⟩ := row_at (row := row) (z := (2 + most + (0 + (i : Int)) * (wG g pairs)) + 2) (hA 2 (by omega) (by omega)).1 (hA 2 (by omega) (by omega)).2
            obtain ⟨yE, hyE, _⟩ := row_at (row := row) (z := (2 + most + (0 + (i : Int)) * (wG g pairs)) + 3) (hA 3 (by omega) (by omega)).1 (hA 3 (by omega) (by omega)).2
            have hi1 : (i : Int) < many := by omega
            have y01 : 1 ≤ y0 := by
              rcases Int.lt_or_le 0 y0 with q | q
              · omega
              · have := g3 (by omega)
                omega
            refine ⟨_, rfl, _, _, rfl, rfl, _, rfl, _, rfl, _, _, rfl, rfl, .inl ⟨by omega, by omega⟩, _, _, rfl, rfl, ?_⟩
            refine ⟨_, rfl, _, _, rfl, rfl, ?_⟩
            refine ⟨_, rfl, _, rfl, r, _, _, _, rfl, rfl, SqL.of hrow7, hyA, _, rfl, _, _, rfl, rfl, (by show (0 : Int) < 0 + (i : Int) + 1; omega), .inl ⟨_, rfl, ?_⟩⟩
            refine ⟨mid2 c most extra g pairs p1 r y0 many nl dl i (2 + most + (0 + (i : Int)) * (wG g pairs)) v4 H7, ?_, ?_⟩
            · refine ⟨_, rfl, _, rfl, _, _, rfl, rfl, _, _, rfl, rfl, _, rfl, ite2 (fun e => ?_) (fun e => ?_)⟩
              · have n0 := Int.emod_nonneg yA (show 1 + y0 ≠ 0 by omega)
                have n1 := Int.emod_lt_of_pos yA (show 0 < 1 + y0 by omega)
                have m0 := Int.emod_nonneg yB (show 1 + y0 - 1 ≠ 0 by omega)
                have m1 := Int.emod_lt_of_pos yB (show 0 < 1 + y0 - 1 by omega)
                refine ⟨_, rfl, _, rfl, r, _, _, _, rfl, rfl, SqL.of hrow7, hyA, _, rfl, _, _, rfl, rfl, (by show (0 : Int) < 1 + y0; omega), .inl ⟨_, rfl, ?_⟩⟩
                refine ⟨_, rfl, _, _, rfl, rfl, _, rfl, _, rfl, _, _, rfl, rfl, r, _, _, _, rfl, rfl, SqL.of hrow7, hyB, _, rfl, _, _, rfl, rfl, _, _, rfl, rfl, (by show (0 : Int) < 1 + y0 - 1; omega), _, _, rfl, rfl, .inl ⟨_, rfl, _, rfl, _, _, rfl, rfl, (by show (0 : Int) < 1 + y0; omega), ?_⟩⟩
                exact ⟨_, _, rfl, rfl, n0, n1, Int.emod_nonneg _ (by omega), Int.emod_lt_of_pos _ (by omega), fun z => far_ne n0 n1 m0 m1 z.symm, fun z => by have := of_decide_eq_true e; omega⟩
              · have e0 : ¬ (1 + y0 - 1 ≤ 0 + (i : Int)) := fun z => e (decide_eq_true z)
                have n0 := Int.emod_nonneg yA (show 0 + (i : Int) + 1 ≠ 0 by omega)
                have n1 := Int.emod_lt_of_pos yA (show 0 < 0 + (i : Int) + 1 by omega)
                exact ⟨_, _, rfl, rfl, n0, by omega, by omega, by omega, by omega, fun _ => ⟨by omega, by omega⟩⟩
            rintro σ H' ⟨near, far, rfl, rfl, a0, a1, b0, b1, ne, lk⟩
            refine ⟨mid3 c most extra g pairs p1 r y0 many nl dl i (2 + most + (0 + (i : Int)) * (wG g pairs)) v4 H', ?_, ?_⟩
            · refine ⟨_, rfl, _, rfl, _, _, rfl, rfl, r, _, _, _, rfl, rfl, SqL.of hrow7, hyC, rfl, _, rfl, ite2 (fun _ => ?_) (fun _ => ?_)⟩
              · refine ⟨_, rfl, _, rfl, _, _, rfl, ?_⟩
                exact ⟨_, _, rfl, rfl, b0, b1, a0, a1, ne.symm, fun z => .inr (lk z)⟩
              · exact ⟨_, _, rfl, rfl, a0, a1, b0, b1, ne, fun z => .inl (lk z)⟩
            clear lk ne a0 a1 b0 b1 near far
            rintro σ H8 ⟨near, far, rfl, rfl, a0, a1, b0, b1, ne, lk⟩
            refine ⟨_, rfl, _, rfl, _, _, rfl, rfl, _, rfl, _, rfl, r, row, _, _, g, rfl, SqL.of hrow7, (hA 4 (by omega) (by omega)).1, (by have := (hA (4 + L) (by omega) (by omega)).2; omega), hp0, hp4, gok, fun cyc H9 hc hcl s9 => ?_⟩
            have hD9 : H9 dl = some (.lst refs) := s9 _ _ hD
            have hN9 : H9 nl = some (.lst (xs.map V.int)) := s9 _ _ hN7
            have hrl : refs.length = i := by rw [a2.len, tr.len]
            have pE : 0 < (refs.length : Int) + 1 := by omega
            have n0 := Int.emod_nonneg yE (show (refs.length : Int) + 1 ≠ 0 by omega)
            have n1 := Int.emod_lt_of_pos yE pE
            obtain ⟨na, ea, ea2, na0, na1⟩ := nm.get a0 (by omega)
            obtain ⟨nb, eb, eb2, nb0, nb1⟩ := nm.get b0 (by omega)
            refine ⟨_, rfl, .inl ⟨rfl, _, SqL.of hD9⟩, _, rfl, _, rfl, _, _, rfl, rfl, r, _, _, _, rfl, rfl, SqL.of (s9 _ _ hrow7), hyE, _, rfl, dl, _, rfl, .inl (SqL.of hD9), _, _, rfl, rfl, _, _, rfl, rfl, pE, .inl ⟨_, rfl, ?_⟩⟩
            refine ⟨_, rfl, _, rfl, nl, _, _, _, rfl, rfl, SqL.of hN9, ea, _, rfl, _, rfl, nl, _, _, _, rfl, rfl, SqL.of hN9, eb, _, rfl, (by show 3 ≤ sizeLine; decide), fun tp htp => ?_⟩
            refine ⟨dl, _, _, _, rfl, rfl, nk hD9 htp, small1000 (by omega), n0, by omega, ?_⟩
            have hdl0 : H6 dl = none := hdl
            have s10 : Same H6 H9 := s7.trans s9
            refine ⟨_, _, _, _, _, _, _, rfl, same_upd (same_upd s10 (s10.free htp)) hdl0, upd_same, All2.ins _ ?_ ⟨tp, rfl, ?_⟩, tr.more _ ⟨na0, by omega⟩ ⟨nb0, by omega⟩ (nm.ne ea2 eb2 (by omega)) hc hcl ?_⟩
            · exact ((a2.imp (fun v d q => q.same s9)).imp (IsDoor.keep (by rw [htp]; intro _ q; cases q))).imp (IsDoor.keep (by rw [nk hD9 htp]; intro _ q; cases q))
            · rw [upd_ne (fun q => by rw [q, hD9] at htp; cases htp), upd_same]
            · intro y hy
              have hil : i + 1 < xs.length := (List.getElem?_eq_some_iff.mp hy).1
              rw [nm.len] at hil
              rcases lk (by omega) with ⟨f1, f2⟩ | ⟨f1, f2⟩
              · refine ⟨near.toNat, na, by omega, ea2, .inl ⟨rfl, ?_⟩⟩
                have e : far.toNat = i + 1 := by omega
                rw [e, hy] at eb2
                exact (Option.some.inj eb2).symm
              · refine ⟨far.toNat, nb, by omega, eb2, .inr ⟨?_, rfl⟩⟩
                have e : near.toNat = i + 1 := by omega
                rw [e, hy] at ea2
                exact (Option.some.inj ea2).symm
          · rintro σ H7 ⟨ds, refs, vk3, v1, v2, v3, v4, rfl, s7, hD, a2, tr⟩
            refine ⟨_, rfl, _, rfl, (by show 2 ≤ sizeLine; decide), fun tp htp => ?_⟩
            have sE : Same H H7 := s5.trans (s6.trans s7)
            refine kQ (1 + y0) ds _ tp dl refs (tr.good (by omega) (by omega) nm (by omega) (by omega) (by omega)) (by omega) (fun d hd => (tr.cyc d hd).2) (fun q => ?_) (same_upd sE (sE.free htp)) (sE.free htp) ((s5.trans s6).free hdl) upd_same (nk hD htp) (a2.imp fun v d q => q.same (same_new htp))
            have z : ds.length = 0 := by
              rw [tr.len]
              have := g3 (by omega)
              omega
            exact List.length_eq_zero_iff.mp z
end
end GH
end Lh
set_option Elab.async false
set_option linter.all false
set_option maxRecDepth 100000
set_option maxHeartbeats 8000000
namespace Lh
open PySem PySem.Spec PyProof.Rows L2 SX
def azL : List Nat := (List.range 26).map (· + 65)
theorem strAZ : Str.ofString "ABCDEFGHIJKLMNOPQRSTUVWXYZ" = S azL := by decide +kernel
theorem drop_perm {l : List Nat} {j c : Nat} (h : l[j]? = some c) : ([c] ++ (l.take j ++ l.drop (j + 1))).Perm l := by
  have hj : j < l.length := (List.getElem?_eq_some_iff.mp h).1
  have e : l.take j ++ c :: l.drop (j + 1) = l := by
    have hc : l[j] = c := (List.getElem?_eq_some_iff.mp h).2
    rw [← hc, ← List.drop_eq_getElem_cons hj, List.take_append_drop]
  have p : (l.take j ++ c :: l.drop (j + 1)).Perm (c :: (l.take j ++ l.drop (j + 1))) := List.perm_middle
  rw [e] at p
  exact p.symm
structure GPart (i : Nat) (g l : List Nat) : Prop where
  gl : g.length = i
  ll : l.length = 26 - i
  nd : (g ++ l).Nodup
  az : ∀ c ∈ g ++ l, 65 ≤ c ∧ c ≤ 90
theorem GPart.start : GPart 0 [] azL := ⟨rfl, rfl, by decide +kernel, by decide +kernel⟩
theorem GPart.more {i : Nat} {g l : List Nat} (h : GPart i g l) (hi : i < 26) {j c : Nat} (hc : l[j]? = some c) : GPart (i + 1) (g ++ [c]) (l.take j ++ l.drop (j + 1)) := by
  have hj : j < l.length := (List.getElem?_eq_some_iff.mp hc).1
  have p : ((g ++ [c]) ++ (l.take j ++ l.drop (j + 1))).Perm (g ++ l) := by
    rw [List.append_assoc]
    exact (drop_perm hc).append_left g
  refine ⟨by simp [h.gl], ?_, p.nodup_iff.mpr h.nd, fun x hx => h.az x (p.mem_iff.mp hx)⟩
  have := h.ll
  simp
  omega
theorem GPart.ok {i : Nat} {g l : List Nat} (h : GPart i g l) (h2 : 2 ≤ i) (h5 : i ≤ 5) : GuildOk g :=
  ⟨(List.nodup_append.mp h.nd).1, by rw [h.gl]; exact h2, by rw [h.gl]; exact h5, fun c hc => h.az c (List.mem_append_left _ hc)⟩
/-- a guild of drawn letters -/
def spGuild : Sp := fun vs H Q _ => ∃ c : Int, vs = [.int c] ∧ ∀ (g : List Nat) (H' : Hp), GuildOk g → Same H H' → Q (.str (S g)) H'
section
variable {P : Program} {w : World} {K : PySem.W.Frag} {mg : Str → Option Value} {base : Heap}
theorem scGu : FnScope ["_law_cell_here", "_law_row_here", "_law_left", "_law_guild_here", "_law_k"] ["_law_cell_here"] (defScope (top 62)) := ⟨rfl, rfl, rfl, by decide +kernel, rfl, by decide +kernel, by decide +kernel⟩
def guI (c : Int) (r : Addr) (i : Nat) (H : Hp) (σ : L2.St) (H' : Hp) : Prop := ∃ (g l : List Nat) (vk : Option V), σ = [some (.int c), some (.ref r), some (.str (S l)), some (.str (S g)), vk] ∧ GPart i g l ∧ H' = H
theorem guI_of {c : Int} {r : Addr} {i : Nat} {H : Hp} {g l : List Nat} {x y : Str} (vk : Option V) (ex : x = S l) (ey : y = S g) (h : GPart i g l) : guI c r i H [some (.int c), some (.ref r), some (.str x), some (.str y), vk] H := ⟨g, l, vk, by rw [ex, ey], h, rfl⟩
theorem ok_guild (B : Blt mg) (D : Dfn K mg "_law_guild" (top 62)) (c_law_row : Cal P w K mg base CX0 1 "_law_row" ["_law_cell_here", "_law_sizes"] (spRow K)) : Cal P w K mg base CX0 2 "_law_guild" ["_law_cell_here"] spGuild := by
  have S' := scGu
  refine D.cal0 scGu (fun vs H Q E h => ?_) (fun _ _ _ _ _ _ us hl => match us, hl with | [_], _ => rfl) (fun f cdv A outer s H vs Q E hr h => ?_)
  · obtain ⟨c, rfl, _⟩ := h
    rfl
  · obtain ⟨c, rfl, kQ⟩ := h
    refine ⟨_, (pss_cons (ps_set (i := 1) S'.nd rfl (Or.inl rfl) (pcl c_law_row hr (pa_cons (pv 0) (pa_cons (pe_lst (pa_cons pe_int (pa_cons pe_int (pa_cons pe_int (pa_cons pe_int (pa_cons pe_int (pa_cons pe_int pa_nil))))))) pa_nil))))
 (pss_cons (ps_set (i := 2) S'.nd rfl (Or.inl rfl) pe_str)
 (pss_cons (ps_set (i := 3) S'.nd rfl (Or.inl rfl) pe_str)
 (pss_cons (ps_for PassesOwn.never rfl (pi_range1 rfl B.range (pa_cons (pe_op op_add pe_int (pe_ix ix_list (pv 1) pe_int (fun _ _ => rfl))) pa_nil)) (pg_name (i := 4) S'.nd rfl (Or.inl rfl))
  (pss_cons (ps_set (i := 3) S'.nd rfl (Or.inl rfl) (pe_op op_add_str (pv 3) (pe_ix ix_str (pv 2) (pe_ix ix_list (pv 1) (pe_op op_add pe_int (pv 4)) (fun _ _ => rfl)) (fun _ _ => rfl))))
 (pss_one (ps_set (i := 2) S'.nd rfl (Or.inl rfl) (pe_op op_add_str (pe_slice sl_str (pv 2) po_none (po_some (pe_ix ix_list (pv 1) (pe_op op_add pe_int (pv 4)) (fun _ _ => rfl)))) (pe_slice sl_str (pv 2) (po_some (pe_op op_add (pe_ix ix_list (pv 1) (pe_op op_add pe_int (pv 4)) (fun _ _ => rfl)) pe_int)) po_none))))))
 (pss_one (ps_ret (pv 3))))))), ?_⟩
    refine ⟨_, rfl, (by show 6 ≤ sizeLine; decide), fun q hq => ?_⟩
    refine ⟨c, q, [4, 26, 25, 24, 23, 22], rfl, SqL.of upd_same, by decide, by decide, fun row H1 r rok s1 hr0 hrow => ?_⟩
    obtain ⟨y0, ey0, b0, b0'⟩ := rok.get (j := 0) rfl
    have sA : Same H H1 := (same_new hq).trans s1
    refine ⟨_, rfl, r, _, _, _, rfl, rfl, SqL.of hrow, at_of (j := 0) rfl (map_get ey0), _, _, rfl, rfl, _, rfl, by omega, by omega, for_range (lo := 0) (n := _) (fun i σ H' => guI c r i H1 σ H') (guI_of none strAZ strE GPart.start) ?_ ?_⟩
    · rintro i σ H' hi ⟨g, l, vk, rfl, gp, rfl⟩
      have hi5 : i < 5 := by omega
      have hn : ([4, 26, 25, 24, 23, 22] : List Int)[1 + i]? = some (26 - (i : Int)) := by
        have : i = 0 ∨ i = 1 ∨ i = 2 ∨ i = 3 ∨ i = 4 := by omega
        rcases this with rfl | rfl | rfl | rfl | rfl <;> rfl
      obtain ⟨y, ey, y0, y1⟩ := rok.get hn
      have ll := gp.ll
      have gl := gp.gl
      obtain ⟨d, hd, hd2⟩ := str_at (l := l) (z := y) y0 (by omega)
      have hy : atI (row.map V.int) (1 + (0 + (i : Int))) = some (.int y) := at_of (j := 1 + i) (by omega) (map_get ey)
      refine ⟨_, rfl, _, rfl, _, rfl, _, rfl, _, _, rfl, rfl, r, _, _, _, rfl, rfl, SqL.of hrow, hy, _, _, d, rfl, rfl, S_le (by omega), hd, _, _, rfl, rfl, ?_, ?_⟩
      · rw [S_len]
        show g.length + 1 ≤ sizeLine
        exact Nat.le_of_lt (small1000 (by omega))
      · refine ⟨_, rfl, _, rfl, _, rfl, _, _, rfl, rfl, r, _, _, _, rfl, rfl, SqL.of hrow, hy, _, rfl, _, rfl, S_le (by omega), ?_⟩
        refine ⟨_, rfl, _, rfl, _, rfl, _, _, rfl, rfl, r, _, _, _, rfl, rfl, SqL.of hrow, hy, _, _, rfl, rfl, _, rfl, _, rfl, S_le (by omega), _, _, rfl, rfl, ?_, ?_⟩
        · rw [cut_take y0, cut_drop (by omega), S_len, S_len, List.length_take, List.length_drop]
          exact Nat.le_of_lt (small1000 (by omega))
        · refine guI_of (l := l.take y.toNat ++ l.drop (y.toNat + 1)) (g := g ++ [d]) _ ?_ (S_cat g [d]) (gp.more (by omega) hd2)
          rw [cut_take y0, cut_drop (by omega), S_cat]
          have e : (y + 1).toNat = y.toNat + 1 := by omega
          rw [e]
    · rintro σ H' ⟨g, l, vk, rfl, gp, rfl⟩
      exact ⟨_, rfl, kQ g _ (gp.ok (by omega) (by omega)) sA⟩
end
end Lh
set_option Elab.async false
set_option linter.all false
set_option maxRecDepth 100000
set_option maxHeartbeats 4000000
namespace Lh
open PySem PySem.Spec PyProof.Rows L2
local macro_rules | `(tactic| walk_at "rd1") => `(tactic| first
  | refine ⟨_, rfl, ?_⟩
  | refine ⟨_, _, rfl, rfl, ?_⟩)
local macro_rules | `(tactic| walk_at "rd") => `(tactic| repeat walk_at "rd1")
section
variable {P : Program} {w : World} {K : PySem.W.Frag} {mg : Str → Option Value} {base : Heap}
abbrev nCell : List Str := ["_law_script", "_law_k"]
theorem scCell : FnScope nCell ["_law_script", "_law_k"] (defScope (top 53)) := ⟨rfl, rfl, rfl, by decide +kernel, rfl, by decide +kernel, by decide +kernel⟩
/-- _law_cell(script, k): an int -/
def spCell (K : PySem.W.Frag) : Sp := fun vs H Q _ => ∃ (a : Addr) (ns : List Int) (k : Nat), vs = [.ref a, .int k] ∧ SqL K H a (ns.map V.int) ∧ ∀ z : Int, Q (.int z) H
theorem ok_cell (B : Blt mg) (D : Dfn K mg "_law_cell" (top 53)) : Cal P w K mg base CX0 1 "_law_cell" ["_law_script", "_law_k"] (spCell K) := by
  refine D.cal0 scCell (fun vs H Q E h => ?_) (fun _ _ _ _ _ _ us hl => match us, hl with | [_, _], _ => rfl) (fun f cdv A outer s H vs Q E hr h => ?_)
  · obtain ⟨a, ns, k, rfl, _⟩ := h
    rfl
  · obtain ⟨a, ns, k, rfl, hS, kQ⟩ := h
    refine ⟨_, pss_cons (ps_if (pt_cmpR op_lt (pv 1) (pe_callB call_len_seq (by rfl) B.len PySem.boot_len (pa_cons (pv 0) pa_nil)) (nomark _)) (pss_one (ps_ret (pe_ix ix_list (pv 0) (pv 1) (fun _ _ => rfl)))) pss_nil)
      (pss_one (ps_ret pe_int)), ?_⟩
    refine ⟨_, rfl, _, rfl, a, _, rfl, .inl hS, _, _, rfl, rfl, _, rfl, ite2 (fun c => ?_) (fun c => ?_)⟩
    · have c' : k < ns.length := by simpa using of_decide_eq_true c
      refine ⟨_, rfl, _, rfl, a, _, _, .int ns[k], rfl, rfl, hS, atI_nat (by simp [c']), kQ _⟩
    · exact kQ _
end
end Lh
set_option Elab.async false
set_option linter.all false
set_option maxRecDepth 100000
set_option maxHeartbeats 8000000
namespace Lh
open PySem PySem.Spec PyProof.Rows L2 SX
theorem S_inj {a b : List Nat} (h : S a = S b) : a = b := by
  have := congrArg (fun z : Str => z.cps.toList) h
  simpa [codes] using this
/-- the doors with new cycles, the first k changed -/
def Ren (g : List Nat) (ds : List Door) (k : Nat) (ds' : List Door) : Prop := ds'.length = ds.length ∧ ∀ i d, ds[i]? = some d → ∃ c, ds'[i]? = some (d.1, d.2.1, c) ∧ CycOk g c ∧ c.length ≤ 40 ∧ (k ≤ i → c = d.2.2)
theorem Ren.start {n : Int} {g : List Nat} {ds : List Door} (h : GoodHouse n g ds) : Ren g ds 0 ds := ⟨rfl, fun i d e => ⟨d.2.2, e, (h.cyc d (List.mem_of_getElem? e)).1, (h.cyc d (List.mem_of_getElem? e)).2, fun _ => rfl⟩⟩
theorem Ren.more {g : List Nat} {ds ds' : List Door} {k : Nat} (h : Ren g ds k ds') {a b : Int} {c0 c : List Nat} (e : ds'[k]? = some (a, b, c0)) (hc : CycOk g c) (hl : c.length ≤ 40) : Ren g ds (k + 1) (ds'.set k (a, b, c)) := by
  refine ⟨by rw [List.length_set]; exact h.1, fun i d ei => ?_⟩
  obtain ⟨c1, e1, k1, k2, k3⟩ := h.2 i d ei
  by_cases q : i = k
  · subst q
    rw [e] at e1
    cases e1
    refine ⟨c, ?_, hc, hl, fun z => absurd z (by omega)⟩
    rw [List.getElem?_set_self]
    exact (List.getElem?_eq_some_iff.mp e).1
  · refine ⟨c1, ?_, k1, k2, fun z => k3 (by omega)⟩
    rw [List.getElem?_set_ne (fun z => q z.symm)]
    exact e1
theorem Ren.good {n : Int} {g : List Nat} {ds ds' : List Door} {k : Nat} (h : Ren g ds k ds') (G : GoodHouse n g ds) : GoodHouse n g ds' := by
  have back : ∀ d' ∈ ds', ∃ d ∈ ds, d'.1 = d.1 ∧ d'.2.1 = d.2.1 ∧ CycOk g d'.2.2 ∧ d'.2.2.length ≤ 40 := fun d' hd => by
    obtain ⟨i, hi⟩ := List.mem_iff_getElem?.mp hd
    have hil : i < ds.length := by rw [← h.1]; exact (List.getElem?_eq_some_iff.mp hi).1
    obtain ⟨c, e, k1, k2, _⟩ := h.2 i _ (List.getElem?_eq_getElem hil)
    rw [hi] at e
    cases e
    exact ⟨_, List.getElem_mem hil, rfl, rfl, k1, k2⟩
  refine ⟨G.n1, G.n16, by rw [h.1]; exact G.len, by rw [h.1]; exact G.many, fun d hd => ?_, fun d hd => ?_, fun r h0 h1 => ?_⟩
  · obtain ⟨d0, hm, e1, e2, _⟩ := back d hd
    rw [e1, e2]
    exact G.ends d0 hm
  · obtain ⟨d0, hm, e1, e2, k⟩ := back d hd
    exact k
  · refine (G.conn r h0 h1).mono fun d hd => ?_
    obtain ⟨i, hi⟩ := List.mem_iff_getElem?.mp hd
    obtain ⟨c, e, _⟩ := h.2 i d hi
    exact ⟨_, List.mem_of_getElem? e, rfl, rfl⟩
def spDrawn (K : PySem.W.Frag) : Sp := fun vs H Q _ => ∃ (sc rw : Addr) (ns row : List Int), vs = [.ref sc, .ref rw] ∧ SqL K H sc (ns.map V.int) ∧ H rw = some (.lst (row.map V.int)) ∧ RowOk row [8, 3, 6, 60, 60, 4] ∧
  ∀ (n : Int) (g : List Nat) (ds : List Door) (H' : Hp) (t l : Addr) (refs : List V), GoodHouse n g ds → GuildOk g → (n = 1 → ds = []) → Same H H' → H t = none → H l = none → H' t = some (.tup [.int n, .ref l, .str (S g)]) → H' l = some (.lst refs) → All2 (IsDoor H') refs ds → Q (.ref t) H'
structure MadeD (H H' : Hp) (n : Int) (g : List Nat) (ds : List Door) (t l : Addr) (refs : List V) : Prop where
  good : GoodHouse n g ds
  c20 : ∀ d ∈ ds, d.2.2.length ≤ 20
  one : n = 1 → ds = []
  s : Same H H'
  hl0 : H l = none
  ht : H' t = some (.tup [.int n, .ref l])
  hl : H' l = some (.lst refs)
  a2 : All2 (IsDoor H') refs ds
section
variable {P : Program} {w : World} {K : PySem.W.Frag} {mg : Str → Option Value} {base : Heap}
theorem scDrw : FnScope ["_law_script", "_law_row_here", "_law_guild_here", "_law_odd", "_law_made", "_law_doors", "_law_k", "_law_cycle"] ["_law_script", "_law_row_here"] (defScope (top 63)) := ⟨rfl, rfl, rfl, by decide +kernel, rfl, by decide +kernel, by decide +kernel⟩
abbrev stD (sc rw : Addr) (g : List Nat) (odd : Bool) (x4 x5 x6 x7 : Option V) : L2.St := [some (.ref sc), some (.ref rw), some (.str (S g)), some (.bl odd), x4, x5, x6, x7]
def midD (H : Hp) (sc rw : Addr) (odd : Bool) (y0 : Int) (σ : L2.St) (H' : Hp) : Prop := ∃ (n : Int) (g : List Nat) (ds : List Door) (t l : Addr) (refs : List V), σ = stD sc rw g odd (some (.ref t)) none none none ∧ MadeD H H' n g ds t l refs ∧ GuildOk g ∧ (2 ≤ y0 → g = [82, 66])
theorem ok_drawn (B : Blt mg) (D : Dfn K mg "_law_drawn" (top 63)) (c_law_cell : Cal P w K mg base CX0 1 "_law_cell" ["_law_script", "_law_k"] (spCell K)) (c_law_house : Cal P w K mg base CX0 2 "_law_house" ["_law_cell_here", "_law_most", "_law_extra", "_law_longest", "_law_odd"] (spHouse K)) (c_law_guild : Cal P w K mg base CX0 2 "_law_guild" ["_law_cell_here"] spGuild)
    (c_law_guild_house : Cal P w K mg base CX0 2 "_law_guild_house" ["_law_cell_here", "_law_most", "_law_extra", "_law_guild_here", "_law_pairs"] (GH.spGHouse K)) : Cal P w K mg base CX0 3 "_law_drawn" ["_law_script", "_law_row_here"] (spDrawn K) := by
  have S' := scDrw
  refine D.cal0 scDrw (fun vs H Q E h => ?_) (fun _ _ _ _ _ _ us hl => match us, hl with | [_, _], _ => rfl) (fun f cdv A outer s H vs Q E hr h => ?_)
  · obtain ⟨sc, rw, ns, row, rfl, _⟩ := h
    rfl
  · obtain ⟨sc, rw, ns, row, rfl, hsc, hrw, rok, kQ⟩ := h
    refine ⟨_, (pss_cons (ps_set (i := 2) S'.nd rfl (Or.inl rfl) pe_str)
 (pss_cons (ps_set (i := 3) S'.nd rfl (Or.inl rfl) (pe_cmpR op_eq (pe_ix ix_list (pv 1) pe_int (fun _ _ => rfl)) pe_int (nomark _)))
 (pss_cons (ps_set (i := 4) S'.nd rfl (Or.inl rfl) (pcl c_law_house hr (pa_cons (pcl c_law_cell hr (pa_cons (pv 0) (pa_cons pe_int pa_nil))) (pa_cons pe_int (pa_cons pe_int (pa_cons pe_int (pa_cons (pv 3) pa_nil)))))))
 (C8.pss_cut (ps_if (pt_cmpR op_lt (pe_ix ix_list (pv 1) pe_int (fun _ _ => rfl)) pe_int (nomark _)) (pss_cons (ps_set (i := 2) S'.nd rfl (Or.inl rfl) (pcl c_law_guild hr (pa_cons (pcl c_law_cell hr (pa_cons (pv 0) (pa_cons pe_int pa_nil))) pa_nil)))
 (pss_one (ps_set (i := 4) S'.nd rfl (Or.inl rfl) (pcl c_law_guild_house hr (pa_cons (pcl c_law_cell hr (pa_cons (pv 0) (pa_cons pe_int pa_nil))) (pa_cons pe_int (pa_cons pe_int (pa_cons (pv 2) (pa_cons pe_int pa_nil))))))))) pss_nil)
 (C8.pss_cut (ps_if (pt_cmpR op_eq (pe_ix ix_list (pv 1) pe_int (fun _ _ => rfl)) pe_int (nomark _)) (pss_one (ps_set (i := 4) S'.nd rfl (Or.inl rfl) (pcl c_law_house hr (pa_cons (pcl c_law_cell hr (pa_cons (pv 0) (pa_cons pe_int pa_nil))) (pa_cons pe_int (pa_cons pe_int (pa_cons pe_int (pa_cons (pv 3) pa_nil)))))))) pss_nil)
 (C8.pss_cut (ps_if (pt_cmpR op_eq (pe_ix ix_list (pv 1) pe_int (fun _ _ => rfl)) pe_int (nomark _)) (pss_one (ps_set (i := 4) S'.nd rfl (Or.inl rfl) (pe_tup (pa_cons pe_int (pa_cons (pe_lst pa_nil) pa_nil))))) pss_nil)
 (C8.pss_cut (ps_if (pt_cmpR op_eq (pe_ix ix_list (pv 1) pe_int (fun _ _ => rfl)) pe_int (nomark _)) (pss_one (ps_set (i := 4) S'.nd rfl (Or.inl rfl) (pcl c_law_house hr (pa_cons (pcl c_law_cell hr (pa_cons (pv 0) (pa_cons pe_int pa_nil))) (pa_cons pe_int (pa_cons pe_int (pa_cons pe_int (pa_cons (pv 3) pa_nil)))))))) pss_nil)
 (pss_cons (ps_set (i := 5) S'.nd rfl (Or.inl rfl) (pe_callTy call_list_of (by rfl) B.list (by decide +kernel) (pa_cons (pe_ix ix_tup (pv 4) pe_int (fun _ _ => rfl)) pa_nil)))
 (pss_cons (ps_for PassesOwn.never rfl (pi_range1 rfl B.range (pa_cons (pe_callB call_len_seq (by rfl) B.len PySem.boot_len (pa_cons (pv 5) pa_nil)) pa_nil)) (pg_name (i := 6) S'.nd rfl (Or.inl rfl))
  (pss_ixG (i := 7) S'.nd rfl (Or.inl rfl) ix_tup (pe_ix ix_list (pv 5) (pv 6) (fun _ _ => rfl))
 (psst_cut (PST.of (ps_if (PW.pt (pw_and (pt_cmpR op_eq (pv 6) (pe_op op_mod (pe_callTy call_int1 (by rfl) B.int (by decide +kernel) (pa_cons (pe_ix ix_list (pv 1) pe_int (fun _ _ => rfl)) pa_nil)) (pe_callB call_len_seq (by rfl) B.len PySem.boot_len (pa_cons (pv 5) pa_nil))) (nomark _)) (pw_and1 (pt_cmpR op_eq (pe_ix ix_list (pv 1) pe_int (fun _ _ => rfl)) pe_int (nomark _))))) (pss_one (ps_set (i := 7) S'.nd rfl (Or.inl rfl) (pe_op op_add_str (pe_op op_add_str (pv 7) (pe_ix ix_str (pv 2) (pe_op op_mod (pe_callTy call_int1 (by rfl) B.int (by decide +kernel) (pa_cons (pe_ix ix_list (pv 1) pe_int (fun _ _ => rfl)) pa_nil)) (pe_callB call_len_str (by rfl) B.len PySem.boot_len (pa_cons (pv 2) pa_nil))) (fun _ _ => rfl))) (pe_ix ix_str (pv 2) (pe_op op_mod (pe_callTy call_int1 (by rfl) B.int (by decide +kernel) (pa_cons (pe_op op_add (pe_ix ix_list (pv 1) pe_int (fun _ _ => rfl)) pe_int) pa_nil)) (pe_callB call_len_str (by rfl) B.len PySem.boot_len (pa_cons (pv 2) pa_nil))) (fun _ _ => rfl))))) pss_nil))
 (psst_cut (PST.of (ps_if (PW.pt (pw_and (pt_cmpR op_eq (pv 6) (pe_op op_mod (pe_callTy call_int1 (by rfl) B.int (by decide +kernel) (pa_cons (pe_ix ix_list (pv 1) pe_int (fun _ _ => rfl)) pa_nil)) (pe_callB call_len_seq (by rfl) B.len PySem.boot_len (pa_cons (pv 5) pa_nil))) (nomark _)) (pw_and1 (pt_cmpR op_eq (pe_ix ix_list (pv 1) pe_int (fun _ _ => rfl)) pe_int (nomark _))))) (pss_one (ps_set (i := 7) S'.nd rfl (Or.inl rfl) (pe_op op_add_str (pe_ix ix_str (pv 2) (pe_op op_mod (pe_callTy call_int1 (by rfl) B.int (by decide +kernel) (pa_cons (pe_ix ix_list (pv 1) pe_int (fun _ _ => rfl)) pa_nil)) (pe_callB call_len_str (by rfl) B.len PySem.boot_len (pa_cons (pv 2) pa_nil))) (fun _ _ => rfl)) (pv 7)))) pss_nil))
 (psst_cut (CwR.pst_if (PW.pt (pw_and (pt_cmpR op_ge (pe_ix ix_list (pv 1) pe_int (fun _ _ => rfl)) pe_int (nomark _)) (pw_and1 (pt_cmpR op_eq (pv 2) pe_str (nomark _))))) (CwR.psst_one (pst_set (i := 7) S'.nd rfl (Or.inl rfl) (CwR.pet_replC (pv 7)))) CwR.psst_nil)
 (psst_cut (PST.of (ps_if (PW.pt (pw_and (pt_cmpR op_eq (pe_ix ix_list (pv 1) pe_int (fun _ _ => rfl)) pe_int (nomark _)) (pw_and (pt_cmpR op_eq (pv 2) pe_str (nomark _)) (pw_and (pt_cmpR op_eq (pe_ix ix_str (pv 7) pe_int (fun _ _ => rfl)) pe_str (nomark _)) (pw_and1 (pt_cmpR op_eq (pe_ix ix_str (pv 7) (pe_un un_neg pe_int) (fun _ _ => rfl)) pe_str (nomark _))))))) (pss_one (ps_set (i := 7) S'.nd rfl (Or.inl rfl) (pe_op op_add_str (pe_slice sl_str (pv 7) po_none (po_some (pe_un un_neg pe_int))) pe_str))) pss_nil))
 (CwR.psst_one (PST.of (ps_asg (pe_tup (pa_cons (pe_ix ix_tup (pe_ix ix_list (pv 5) (pv 6) (fun _ _ => rfl)) pe_int (fun _ _ => rfl)) (pa_cons (pe_ix ix_tup (pe_ix ix_list (pv 5) (pv 6) (fun _ _ => rfl)) pe_int (fun _ _ => rfl)) (pa_cons (pv 7) pa_nil)))) (pg_sub (pv 5) (pv 6) set_list)))))))) (fun _ _ => rfl)))
 (pss_one (ps_ret (pe_tup (pa_cons (pe_ix ix_tup (pv 4) pe_int (fun _ _ => rfl)) (pa_cons (pv 5) (pa_cons (pv 2) pa_nil))))))))))))))), ?_⟩
    obtain ⟨y0, ey0, b0, b0'⟩ := rok.get (j := 0) (n := 8) rfl
    obtain ⟨y1, ey1, b1, b1'⟩ := rok.get (j := 1) (n := 3) rfl
    obtain ⟨y2, ey2, b2, b2'⟩ := rok.get (j := 2) (n := 6) rfl
    obtain ⟨y3, ey3, b3, b3'⟩ := rok.get (j := 3) (n := 60) rfl
    obtain ⟨y4, ey4, b4, b4'⟩ := rok.get (j := 4) (n := 60) rfl
    have a0 : ∀ {H' : Hp}, Same H H' → SqL K H' rw (row.map V.int) := fun s => SqL.of (s _ _ hrw)
    refine ⟨_, rfl, rw, _, _, _, rfl, rfl, SqL.of hrw, at_of (j := 1) rfl (map_get ey1), rfl, ?_⟩
    rw [strRB]
    generalize eo : decide (V.int y1 = V.int 0) = odd
    refine ⟨_, rfl, sc, ns, 0, rfl, hsc, fun c0 => ⟨_, rfl, c0, 5, 2, 6, odd, rfl, by decide, by decide, by decide, by decide, by decide, by decide, fun n ds H1 t l refs G nm cl one s1 ht hl ht' hl' a2 => ?_⟩⟩
    have M : MadeD H H1 n [82, 66] ds t l refs := ⟨G, fun d hd => by have := cl d hd; omega, one, s1, hl, ht', hl', a2⟩
    clear G nm cl one ht hl ht' hl' a2
    refine ⟨midD H sc rw odd y0, ?_, ?_⟩
    · refine ⟨_, rfl, rw, _, _, _, rfl, rfl, a0 s1, at_of (j := 0) rfl (map_get ey0), _, _, rfl, rfl, _, rfl, ite2 (fun e => ?_) (fun e => ⟨n, [82, 66], ds, t, l, refs, rfl, M, guildRB, fun _ => rfl⟩)⟩
      have e1 := of_decide_eq_true e
      refine ⟨_, rfl, sc, ns, 6, rfl, s1.seq hsc, fun c6 => ⟨c6, rfl, fun g H2 gok s2 => ?_⟩⟩
      have s12 := s1.trans s2
      have g2 := gok.two
      have g5 := gok.five
      exact ⟨_, rfl, sc, ns, 0, rfl, s12.seq hsc, fun c0 => ⟨_, rfl, c0, 5, 2, g, 2, rfl, by decide, by decide, by decide, by decide, gok, by decide, by decide, fun n ds H3 t l refs G nm cl one s3 ht hl ht' hl' a2 =>
        ⟨n, g, ds, t, l, refs, rfl, ⟨G, fun d hd => by have := cl d hd; omega, one, s12.trans s3, s12.free hl, ht', hl', a2⟩, gok, fun z => absurd z (by omega)⟩⟩⟩
    clear M s1 t l refs ds n
    rintro σ H1 ⟨n, g, ds, t, l, refs, rfl, M, gok, hg⟩
    refine ⟨midD H sc rw odd y0, ?_, ?_⟩
    · refine ⟨_, rfl, rw, _, _, _, rfl, rfl, a0 M.s, at_of (j := 0) rfl (map_get ey0), rfl, _, rfl, ite2 (fun e => ?_) (fun e => ⟨n, g, ds, t, l, refs, rfl, M, gok, hg⟩)⟩
      have e1 := vint e
      have eg := hg (by omega)
      subst eg
      exact ⟨_, rfl, sc, ns, 0, rfl, M.s.seq hsc, fun c0 => ⟨_, rfl, c0, 5, 2, 2, odd, rfl, by decide, by decide, by decide, by decide, by decide, by decide, fun n ds H3 t l refs G nm cl one s3 ht hl ht' hl' a2 =>
        ⟨n, [82, 66], ds, t, l, refs, rfl, ⟨G, fun d hd => by have := cl d hd; omega, one, M.s.trans s3, M.s.free hl, ht', hl', a2⟩, gok, hg⟩⟩⟩
    clear M gok hg t l refs ds n g
    rintro σ H1 ⟨n, g, ds, t, l, refs, rfl, M, gok, hg⟩
    refine ⟨midD H sc rw odd y0, ?_, ?_⟩
    · refine ⟨_, rfl, rw, _, _, _, rfl, rfl, a0 M.s, at_of (j := 0) rfl (map_get ey0), rfl, _, rfl, ite2 (fun e => ?_) (fun e => ⟨n, g, ds, t, l, refs, rfl, M, gok, hg⟩)⟩
      refine ⟨Nat.zero_le _, fun l2 hl2 => ⟨(by show 2 ≤ sizeLine; decide), fun t2 ht2 => ?_⟩⟩
      have s2 := same_upd (o := .lst []) M.s (M.s.free hl2)
      refine ⟨1, g, [], t2, l2, [], rfl, ⟨⟨by decide, by decide, by decide, by decide, by simp, by simp, fun r h0 h1 => ?_⟩, by simp, fun _ => rfl, same_upd s2 (s2.free ht2), M.s.free hl2, upd_same, nk upd_same ht2, .nil⟩, gok, hg⟩
      have : r = 0 := by omega
      subst this
      exact .refl _
    clear M gok hg t l refs ds n g
    rintro σ H1 ⟨n, g, ds, t, l, refs, rfl, M, gok, hg⟩
    refine ⟨midD H sc rw odd y0, ?_, ?_⟩
    · refine ⟨_, rfl, rw, _, _, _, rfl, rfl, a0 M.s, at_of (j := 0) rfl (map_get ey0), rfl, _, rfl, ite2 (fun e => ?_) (fun e => ⟨n, g, ds, t, l, refs, rfl, M, gok, hg⟩)⟩
      have e1 := vint e
      have eg := hg (by omega)
      subst eg
      exact ⟨_, rfl, sc, ns, 0, rfl, M.s.seq hsc, fun c0 => ⟨_, rfl, c0, 16, 9, 10, odd, rfl, by decide, by decide, by decide, by decide, by decide, by decide, fun n ds H3 t l refs G nm cl one s3 ht hl ht' hl' a2 =>
        ⟨n, [82, 66], ds, t, l, refs, rfl, ⟨G, fun d hd => by have := cl d hd; omega, one, M.s.trans s3, M.s.free hl, ht', hl', a2⟩, gok, hg⟩⟩⟩
    clear M gok hg t l refs ds n g
    rintro σ H1 ⟨n, g, ds, t, l, refs, rfl, M, gok, hg⟩
    refine ⟨_, rfl, t, _, _, _, rfl, rfl, SqT.of M.ht, rfl, l, _, rfl, .inl (SqL.of M.hl), fun dl hdl => ?_⟩
    have hrl := M.a2.len
    have glen := M.good.len
    have g2 := gok.two
    have g5 := gok.five
    have hgl : ((S g).length : Int) = g.length := by rw [S_len]
    have hgS : (S g).length ≤ sizeLine := S_le (by omega)
    have hdl0 : H dl = none := M.s.free hdl
    refine ⟨_, rfl, dl, _, rfl, .inl (SqL.of upd_same), _, rfl, by omega, by omega, for_range (lo := 0) (n := _) (fun k σ H' => ∃ (refs' : List V) (ds' : List Door) (x6 x7 : Option V), σ = stD sc rw g odd (some (.ref t)) (some (.ref dl)) x6 x7 ∧ Same H1 H' ∧ H' dl = some (.lst refs') ∧ All2 (IsDoor H') refs' ds' ∧ Ren g ds k ds')
      ⟨refs, ds, none, none, rfl, same_new hdl, upd_same, M.a2.imp fun v d q => q.same (same_new hdl), Ren.start M.good⟩ ?_ ?_⟩
    · rintro i σ H3 hi ⟨refs', ds', x6, x7, rfl, s3, hdl3, a23, ren⟩
      have hrl' := a23.len
      have hlen' := ren.1
      have hid : i < ds.length := by omega
      obtain ⟨c0, e0, hc0, hc40, hk⟩ := ren.2 i _ (List.getElem?_eq_getElem hid)
      have hc20 : c0.length ≤ 20 := by rw [hk (Nat.le_refl _)]; exact M.c20 _ (List.getElem_mem hid)
      clear hk hc40
      generalize ds[i].1 = a at e0
      generalize ds[i].2.1 = b at e0
      obtain ⟨v, hv, q, rfl, hq⟩ := a23.get e0
      have sH := M.s.trans s3
      have r3 := a0 sH
      refine ⟨_, rfl, _, rfl, dl, _, _, _, rfl, rfl, SqL.of hdl3, at_of (j := i) (by omega) hv, q, _, _, _, rfl, rfl, SqT.of hq, rfl, ?_⟩
      have mid : (B : Nat) → L2.St → Hp → Prop := fun B σ H' => ∃ c : List Nat, σ = stD sc rw g odd (some (.ref t)) (some (.ref dl)) (some (.int (0 + (i : Int)))) (some (.str (S c))) ∧ H' = H3 ∧ CycOk g c ∧ c.length ≤ B
      refine ⟨fun σ H' => ∃ c : List Nat, σ = stD sc rw g odd (some (.ref t)) (some (.ref dl)) (some (.int (0 + (i : Int)))) (some (.str (S c))) ∧ H' = H3 ∧ CycOk g c ∧ c.length ≤ 22, ?_, ?_⟩
      · refine ⟨_, rfl, _, rfl, rw, _, _, _, rfl, rfl, r3, at_of (j := 3) rfl (map_get ey3), .inl ⟨_, rfl, _, rfl, dl, _, rfl, .inl (SqL.of hdl3), _, _, rfl, rfl, (by show (0 : Int) < refs'.length; omega), rfl, _, rfl, ite2 (fun _ => ?_) (fun _ => ⟨c0, rfl, rfl, hc0, by omega⟩)⟩⟩
        refine ⟨_, rfl, rw, _, _, _, rfl, rfl, r3, at_of (j := 2) rfl (map_get ey2), rfl, _, rfl, ite2 (fun _ => ?_) (fun _ => ⟨c0, rfl, rfl, hc0, by omega⟩)⟩
        have n0 := Int.emod_nonneg y4 (show ((S g).length : Int) ≠ 0 by omega)
        have n1 := Int.emod_lt_of_pos y4 (show 0 < ((S g).length : Int) by omega)
        have m0 := Int.emod_nonneg (y4 + 1) (show ((S g).length : Int) ≠ 0 by omega)
        have m1 := Int.emod_lt_of_pos (y4 + 1) (show 0 < ((S g).length : Int) by omega)
        obtain ⟨z1, hz1, ez1⟩ := str_at (l := g) n0 (by omega)
        obtain ⟨z2, hz2, ez2⟩ := str_at (l := g) m0 (by omega)
        refine ⟨_, rfl, _, rfl, _, rfl, rw, _, _, _, rfl, rfl, r3, at_of (j := 4) rfl (map_get ey4), .inl ⟨_, rfl, _, rfl, _, rfl, hgS, _, _, rfl, rfl, (by show (0 : Int) < (S g).length; omega), _, _, z1, rfl, rfl, hgS, hz1, _, _, rfl, rfl, ?_, ?_⟩⟩
        · rw [S_len]
          show c0.length + 1 ≤ sizeLine
          exact Nat.le_of_lt (small1000 (by omega))
        refine ⟨_, rfl, _, rfl, rw, _, _, _, rfl, rfl, r3, at_of (j := 4) rfl (map_get ey4), _, _, rfl, rfl, .inl ⟨_, rfl, _, rfl, _, rfl, hgS, _, _, rfl, rfl, (by show (0 : Int) < (S g).length; omega), _, _, z2, rfl, rfl, hgS, hz2, _, _, rfl, rfl, ?_, ?_⟩⟩
        · rw [Str.length_append, S_len]
          show c0.length + 1 + 1 ≤ sizeLine
          exact Nat.le_of_lt (small1000 (by omega))
        · refine ⟨c0 ++ [z1] ++ [z2], ?_, rfl, cyc_more hc0 (List.mem_of_getElem? ez1) (List.mem_of_getElem? ez2), by simp; omega⟩
          have e1 : S c0 ++ ⟨#[z1]⟩ = S (c0 ++ [z1]) := S_cat c0 [z1]
          have e2 : S (c0 ++ [z1]) ++ ⟨#[z2]⟩ = S (c0 ++ [z1] ++ [z2]) := S_cat _ [z2]
          show stD sc rw g odd (some (.ref t)) (some (.ref dl)) (some (.int (0 + (i : Int)))) (some (.str (S c0 ++ ⟨#[z1]⟩ ++ ⟨#[z2]⟩))) = _
          rw [e1, e2]
      rintro σ H4 ⟨c1, rfl, rfl, hc1, l1⟩
      refine ⟨fun σ H' => ∃ c : List Nat, σ = stD sc rw g odd (some (.ref t)) (some (.ref dl)) (some (.int (0 + (i : Int)))) (some (.str (S c))) ∧ H' = H4 ∧ CycOk g c ∧ c.length ≤ 23, ?_, ?_⟩
      · refine ⟨_, rfl, _, rfl, rw, _, _, _, rfl, rfl, r3, at_of (j := 3) rfl (map_get ey3), .inl ⟨_, rfl, _, rfl, dl, _, rfl, .inl (SqL.of hdl3), _, _, rfl, rfl, (by show (0 : Int) < refs'.length; omega), rfl, _, rfl, ite2 (fun _ => ?_) (fun _ => ⟨c1, rfl, rfl, hc1, by omega⟩)⟩⟩
        refine ⟨_, rfl, rw, _, _, _, rfl, rfl, r3, at_of (j := 2) rfl (map_get ey2), rfl, _, rfl, ite2 (fun _ => ?_) (fun _ => ⟨c1, rfl, rfl, hc1, by omega⟩)⟩
        have n0 := Int.emod_nonneg y4 (show ((S g).length : Int) ≠ 0 by omega)
        have n1 := Int.emod_lt_of_pos y4 (show 0 < ((S g).length : Int) by omega)
        obtain ⟨z1, hz1, ez1⟩ := str_at (l := g) n0 (by omega)
        refine ⟨_, rfl, _, rfl, rw, _, _, _, rfl, rfl, r3, at_of (j := 4) rfl (map_get ey4), .inl ⟨_, rfl, _, rfl, _, rfl, hgS, _, _, rfl, rfl, (by show (0 : Int) < (S g).length; omega), _, _, z1, rfl, rfl, hgS, hz1, _, rfl, _, _, rfl, rfl, ?_, ?_⟩⟩
        · rw [S_len]
          show 1 + c1.length ≤ sizeLine
          exact Nat.le_of_lt (small1000 (by omega))
        · refine ⟨[z1] ++ c1, ?_, rfl, cyc_front hc1 (List.mem_of_getElem? ez1), by simp; omega⟩
          have e1 : (⟨#[z1]⟩ : Str) ++ S c1 = S ([z1] ++ c1) := S_cat [z1] c1
          show stD sc rw g odd (some (.ref t)) (some (.ref dl)) (some (.int (0 + (i : Int)))) (some (.str (⟨#[z1]⟩ ++ S c1))) = _
          rw [e1]
      clear hc1 l1 c1 hc0 hc20
      rintro σ H5 ⟨c1, rfl, rfl, hc1, l1⟩
      refine ⟨fun σ H' => ∃ c : List Nat, σ = stD sc rw g odd (some (.ref t)) (some (.ref dl)) (some (.int (0 + (i : Int)))) (some (.str (S c))) ∧ H' = H5 ∧ CycOk g c ∧ c.length ≤ 23, ?_, ?_⟩
      · refine ⟨_, rfl, rw, _, _, _, rfl, rfl, r3, at_of (j := 2) rfl (map_get ey2), _, _, rfl, rfl, _, rfl, ite2 (fun _ => ?_) (fun _ => ⟨c1, rfl, rfl, hc1, l1⟩)⟩
        refine ⟨_, rfl, rfl, _, rfl, ite2 (fun e => ?_) (fun _ => ⟨c1, rfl, rfl, hc1, l1⟩)⟩
        have eg : g = [82, 66] := S_inj (V.str.inj (of_decide_eq_true e))
        subst eg
        obtain ⟨k1, k2⟩ := replC_ok hc1
        refine ⟨_, rfl, _, rfl, ?_, replC c1, ?_, rfl, k1, by rw [k2]; exact l1⟩
        · have : (Str.ofString "BR").length = 2 := by decide +kernel
          rw [S_len, this]
          omega
        · show stD sc rw [82, 66] odd (some (.ref t)) (some (.ref dl)) (some (.int (0 + (i : Int)))) (some (.str (Txt.replace (S c1) (Str.ofString "BB") (Str.ofString "BR")))) = _
          rw [repl_S]
      clear hc1 l1 c1
      rintro σ H6 ⟨c1, rfl, rfl, hc1, l1⟩
      refine ⟨fun σ H' => ∃ c : List Nat, σ = stD sc rw g odd (some (.ref t)) (some (.ref dl)) (some (.int (0 + (i : Int)))) (some (.str (S c))) ∧ H' = H6 ∧ CycOk g c ∧ c.length ≤ 23, ?_, ?_⟩
      · refine ⟨_, rfl, rw, _, _, _, rfl, rfl, r3, at_of (j := 2) rfl (map_get ey2), rfl, _, rfl, ite2 (fun _ => ?_) (fun _ => ⟨c1, rfl, rfl, hc1, l1⟩)⟩
        refine ⟨_, rfl, rfl, _, rfl, ite2 (fun e => ?_) (fun _ => ⟨c1, rfl, rfl, hc1, l1⟩)⟩
        have eg : g = [82, 66] := S_inj (V.str.inj (of_decide_eq_true e))
        subst eg
        have hpos : 0 < c1.length := List.length_pos_of_mem (hc1.2 82 (by simp))
        obtain ⟨x0, hat0, hx0⟩ := str_at (l := c1) (z := 0) (by omega) (by omega)
        obtain ⟨xl, hatl, _⟩ := prev_at (c := c1) (k := 0) hpos
        refine ⟨_, rfl, _, _, x0, rfl, rfl, S_le (by omega), hat0, rfl, _, rfl, ?_⟩
        rw [vstrB]
        refine ite2 (fun e0 => ?_) (fun _ => ⟨c1, rfl, rfl, hc1, l1⟩)
        refine ⟨_, rfl, _, rfl, _, _, xl, rfl, rfl, S_le (by omega), hatl, rfl, _, rfl, ite2 (fun _ => ?_) (fun _ => ⟨c1, rfl, rfl, hc1, l1⟩)⟩
        have ex0 : x0 = 66 := of_decide_eq_true e0
        rw [ex0] at hx0
        have k1 := cyc_last hc1 hx0
        have ecut : cutS (S c1) none (some (-1)) = S c1.dropLast := cut_last
        refine ⟨_, rfl, _, rfl, _, rfl, _, rfl, S_le (by omega), _, _, rfl, rfl, ?_, c1.dropLast ++ [82], ?_, rfl, k1, ?_⟩
        · show (cutS (S c1) none (some (-1))).length + (Str.ofString "R").length ≤ sizeLine
          rw [ecut, strR, S_len, S_len, List.length_dropLast]
          show c1.length - 1 + 1 ≤ sizeLine
          exact Nat.le_of_lt (small1000 (by omega))
        · show stD sc rw [82, 66] odd (some (.ref t)) (some (.ref dl)) (some (.int (0 + (i : Int)))) (some (.str (cutS (S c1) none (some (-1)) ++ Str.ofString "R"))) = _
          rw [ecut, strR, S_cat]
        · rw [List.length_append, List.length_dropLast]
          show c1.length - 1 + 1 ≤ 23
          omega
      clear hc1 l1 c1
      rintro σ H7 ⟨c1, rfl, rfl, hc1, l1⟩
      refine ⟨_, rfl, _, rfl, dl, _, _, _, rfl, rfl, SqL.of hdl3, at_of (j := i) (by omega) hv, q, _, _, _, rfl, rfl, SqT.of hq, rfl, ?_⟩
      refine ⟨_, rfl, _, rfl, dl, _, _, _, rfl, rfl, SqL.of hdl3, at_of (j := i) (by omega) hv, q, _, _, _, rfl, rfl, SqT.of hq, rfl, _, rfl, (by show 3 ≤ sizeLine; decide), fun tp htp => ?_⟩
      refine ⟨_, rfl, _, rfl, dl, _, _, i, rfl, rfl, nk hdl3 htp, ?_, ?_⟩
      · unfold ixN
        rw [if_pos (by omega), if_pos (by omega)]
        congr 1
        omega
      · have eR := ren.more e0 hc1 (by omega)
        have htp' := nk (o := .tup [.int a, .int b, .str (S c1)]) hdl3 htp
        refine ⟨_, _, _, _, rfl, same_upd (same_upd s3 (s3.free htp)) hdl, upd_same, All2.put ⟨tp, rfl, ?_⟩ i (((a23.imp fun v d q => q.same (same_new htp))).imp (IsDoor.keep (by rw [htp']; intro _ q; cases q))), eR⟩
        rw [upd_ne (fun z => by rw [z, hdl3] at htp; cases htp), upd_same]
    · rintro σ H3 ⟨refs', ds', x6, x7, rfl, s3, hdl3, a23, ren⟩
      have sH := M.s.trans s3
      refine ⟨_, rfl, t, _, _, _, rfl, rfl, SqT.of (s3 _ _ M.ht), rfl, _, rfl, _, rfl, (by show 3 ≤ sizeLine; decide), fun tp htp => ?_⟩
      refine kQ n g ds' _ tp dl refs' (ren.good M.good) gok (fun e => ?_) (same_upd sH (sH.free htp)) (sH.free htp) hdl0 upd_same (nk hdl3 htp) (a23.imp fun v d q => q.same (same_new htp))
      have e1 := ren.1
      rw [M.one e] at e1
      exact List.length_eq_zero_iff.mp e1
end
end Lh
set_option Elab.async false
set_option linter.all false
set_option maxRecDepth 100000
set_option maxHeartbeats 8000000
namespace Lh
open PySem PySem.Spec PyProof.Rows L2 SX
section
variable {P : Program} {w : World} {K : PySem.W.Frag} {mg : Str → Option Value} {base : Heap}
theorem scTr : FnScope ["trades", "sign"] ["trades"] (defScope (top 36)) := ⟨rfl, rfl, rfl, by decide +kernel, rfl, by decide +kernel, by decide +kernel⟩
def TradesOk (g : List Nat) : Prop := 2 ≤ g.length ∧ g.Nodup ∧ ∀ c ∈ g, isLet c = true
def spTr : Sp := fun vs H Q _ => ∃ g : List Nat, vs = [.str (S g)] ∧ g.length ≤ 1000 ∧ ∀ (b : Bool) (H' : Hp), (b = true ↔ TradesOk g) → Same H H' → Q (.bl b) H'
theorem ok_tr (B : Blt mg) (D : Dfn K mg "are_trades" (top 36)) (c_is_letter : Cal P w K mg base CX0 1 "is_letter" ["sign"] spLet) : Cal P w K mg base CX0 2 "are_trades" ["trades"] spTr := by
  have S' := scTr
  refine D.cal0 scTr (fun vs H Q E h => ?_) (fun _ _ _ _ _ _ us hl => match us, hl with | [_], _ => rfl) (fun f cdv A outer s H vs Q E hr h => ?_)
  · obtain ⟨g, rfl, _⟩ := h
    rfl
  · obtain ⟨g, rfl, hg, kQ⟩ := h
    refine ⟨_, (pss_cons (ps_if (PW.pt (pw_or (pt_cmpR op_lt (pe_callB call_len_str (by rfl) B.len PySem.boot_len (pa_cons (pv 0) pa_nil)) pe_int (nomark _)) (pw_or1 (pt_cmpR op_ne (pe_callB call_lenT (by rfl) B.len PySem.boot_len (pa_cons (pe_callTy (call_setTxt rfl) (by rfl) B.set (by decide +kernel) (pa_cons (pv 0) pa_nil)) pa_nil)) (pe_callB call_len_str (by rfl) B.len PySem.boot_len (pa_cons (pv 0) pa_nil)) (nomark _))))) (pss_one (ps_ret pe_bl)) pss_nil)
 (pss_one (ps_ret (pe_callB (cr_all rfl) (by rfl) B.all (by decide +kernel) (pa_cons (pe_lc (own := [("sign", 1)]) (g := gName 1) (by rfl) S'.nd (pi_str (pv 0)) (blkOk_by (N := ["trades", "sign"]) (sc := defScope (top 36)) (by decide +kernel)) (fun _ _ _ _ _ => (pg_name (i := 1) S'.nd rfl (Or.inl rfl))) (fun _ _ _ _ _ => pts_nil) (fun _ _ _ _ _ => (pcl c_is_letter hr (pa_cons (pv 1) pa_nil)))) pa_nil))))), ?_⟩
    refine ⟨_, rfl, _, rfl, S_le hg, _, _, rfl, rfl, _, rfl, ?_⟩
    rw [S_len]
    by_cases h2 : (g.length : Int) < 2
    · rw [decide_eq_true h2]
      exact iteT (kQ false H ⟨(fun z => by cases z), fun z => by have := z.1; omega⟩ (fun _ _ z => z))
    rw [decide_eq_false h2]
    refine iteF ?_
    refine ⟨_, rfl, g, rfl, hg, fun p Sx m hp hks => ⟨p, Sx, m, rfl, upd_same, _, rfl, _, rfl, S_le hg, rfl, _, rfl, ite2 (fun e => ?_) (fun e => ?_)⟩⟩
    · obtain ⟨ks, knd, klen, kmem, _⟩ := hks
      refine kQ false _ ⟨(fun z => by cases z), fun z => ?_⟩ (same_new hp)
      exfalso
      have h3 : ks.length = g.length := Nat.le_antisymm (nd_sub knd fun x hx => (kmem x).mp hx) (nd_sub z.2.1 fun x hx => (kmem x).mpr hx)
      have e0 : ¬ V.int m = V.int ((S g).length : Nat) := by simpa using e
      exact e0 (by rw [S_len, ← klen, h3])
    · obtain ⟨ks, knd, klen, kmem, _⟩ := hks
      have e0 : V.int m = V.int ((S g).length : Nat) := by simpa using e
      rw [S_len] at e0
      have e1 : m = g.length := by
        have := V.int.inj e0
        omega
      have gnd : g.Nodup := nd_of_len knd kmem (by omega)
      obtain ⟨H1, eH1⟩ : ∃ H1, H1 = upd H p (SetT P w p Sx m) := ⟨_, rfl⟩
      have s1 : Same H H1 := by rw [eH1]; exact same_new hp
      show tNext _ _ (upd H p (SetT P w p Sx m))
      rw [← eH1]
      have hsz : (S g).cps.size = g.length := by simp [S]
      refine ⟨_, rfl, S g, rfl, fun D hD => lc_it (walk_str (z := S g)) (fun i H' => H' = upd H1 D (.lst ((g.take i).map fun c => V.bl (isLet c)))) rfl (fun _ _ _ _ => trivial) ?_ ?_⟩
      · rintro i x H2 H3 hi rfl ⟨rfl, c, hc, rfl⟩
        have hc2 : g[i]? = some c := by simpa [S] using hc
        refine ⟨rfl, _, rfl, c, rfl, _, upd_same, ?_, ?_⟩
        · rw [List.length_map, List.length_take]
          exact small1000 (by omega)
        · rw [upd_upd, List.take_add_one, hc2, List.map_append]
          rfl
      · rintro H2 rfl
        rw [hsz, List.take_length]
        refine ⟨D, g.map isLet, rfl, SqL.of (by rw [upd_same, List.map_map]; rfl), kQ _ _ ?_ (same_upd s1 (s1.free hD))⟩
        unfold TradesOk
        rw [List.all_eq_true]
        simp only [List.mem_map, id_eq]
        constructor
        · intro z
          exact ⟨by omega, gnd, fun c hc => z _ ⟨c, hc, rfl⟩⟩
        · rintro ⟨_, _, z⟩ x ⟨c, hc, rfl⟩
          exact z c hc
theorem scDr : FnScope ["house", "first", "second", "cycle"] ["house", "first", "second", "cycle"] (defScope (top 37)) := ⟨rfl, rfl, rfl, by decide +kernel, rfl, by decide +kernel, by decide +kernel⟩
def DoorOk (n : Int) (g : List Nat) (d : Door) : Prop := 0 ≤ d.1 ∧ d.1 < n ∧ 0 ≤ d.2.1 ∧ d.2.1 < n ∧ d.1 ≠ d.2.1 ∧ ∀ c, c ∈ d.2.2 ↔ c ∈ g
def spDr (K : PySem.W.Frag) : Sp := fun vs H Q _ => ∃ (p : Addr) (n : Int) (g : List Nat) (ds : List Door) (d : Door), vs = [.ref p, .int d.1, .int d.2.1, .str (S d.2.2)] ∧ HouseAt K H p n g ds ∧ g.length ≤ 1000 ∧ d.2.2.length ≤ 1000 ∧ ∀ (b : Bool) (H' : Hp), (b = true ↔ DoorOk n g d) → Same H H' → Q (.bl b) H'
theorem ok_dr (B : Blt mg) (D : Dfn K mg "is_door" (top 37)) (c_has_room : Cal P w K mg base CX0 1 "has_room" ["house", "room"] (spHR K)) : Cal P w K mg base CX0 2 "is_door" ["house", "first", "second", "cycle"] (spDr K) := by
  have S' := scDr
  refine D.cal0 scDr (fun vs H Q E h => ?_) (fun _ _ _ _ _ _ us hl => match us, hl with | [_, _, _, _], _ => rfl) (fun f cdv A outer s H vs Q E hr h => ?_)
  · obtain ⟨p, n, g, ds, d, rfl, _⟩ := h
    rfl
  · obtain ⟨p, n, g, ds, ⟨a, b, c⟩, rfl, ha, hg, hc1, kQ⟩ := h
    obtain ⟨C, dx, t, refs, hc, h1, h2, h3⟩ := ha.ex
    refine ⟨_, (pss_cons (ps_if (PW.pt (pw_or (pt_not (pt_val (pcl c_has_room hr (pa_cons (pv 0) (pa_cons (pv 1) pa_nil))))) (pw_or (pt_not (pt_val (pcl c_has_room hr (pa_cons (pv 0) (pa_cons (pv 2) pa_nil))))) (pw_or1 (pt_cmpR op_eq (pv 1) (pv 2) (nomark _)))))) (pss_one (ps_ret pe_bl)) pss_nil)
 (pss_one (ps_ret (pe_cmpR (op_eqSet hr.units0) (pe_callTy (call_setTxt rfl) (by rfl) B.set (by decide +kernel) (pa_cons (pv 3) pa_nil)) (pe_callTy (call_setTxt rfl) (by rfl) B.set (by decide +kernel) (pa_cons (pe_fld (pv 0) rfl) pa_nil)) (nomark _))))), ?_⟩
    refine ⟨_, rfl, _, rfl, p, n, g, ds, a, rfl, ha, _, rfl, ?_⟩
    by_cases q1 : 0 ≤ a ∧ a < n
    · rw [decide_eq_true q1]
      refine iteF ⟨_, rfl, _, rfl, p, n, g, ds, b, rfl, ha, _, rfl, ?_⟩
      by_cases q2 : 0 ≤ b ∧ b < n
      · rw [decide_eq_true q2]
        refine iteF ⟨_, rfl, _, rfl, rfl, _, rfl, ite2 (fun e => ?_) (fun e => ?_)⟩
        · exact kQ false H ⟨(fun z => by cases z), fun z => absurd (vint e) z.2.2.2.2.1⟩ (fun _ _ z => z)
        · have hab : a ≠ b := vint_no e
          refine ⟨_, rfl, c, rfl, hc1, fun p1 S1 m1 hp1 hk1 => ⟨_, rfl, p, C, dx, _, _, rfl, nk h1 hp1, hc.cl, hc.nT, rfl, g, rfl, hg, fun p2 S2 m2 hp2 hk2 => ⟨p1, p2, S1, S2, m1, m2, rfl, rfl, nk upd_same hp2, upd_same, fun k hk => kQ k _ (hk.trans ?_) (same_upd (same_new hp1) ((same_new hp1).free hp2))⟩⟩⟩
          obtain ⟨k1, n1, l1, e1, f1⟩ := hk1
          obtain ⟨k2, n2, l2, e2, f2⟩ := hk2
          have sub : (∀ z, S1 z = true → S2 z = true) ↔ ∀ x ∈ k1, x ∈ k2 := by
            constructor
            · intro z x hx
              obtain ⟨y, hy, e⟩ := (f2 _).mp (z (S [x]) ((f1 _).mpr ⟨x, hx, rfl⟩))
              have : x = y := by
                have := congrArg (fun z : Str => z.cps.toList) e
                rw [codes, codes] at this
                cases this
                rfl
              rw [this]
              exact hy
            · intro z y hy
              obtain ⟨x, hx, e⟩ := (f1 _).mp hy
              exact (f2 _).mpr ⟨x, z x hx, e⟩
          rw [sub]
          constructor
          · rintro ⟨hm, hs⟩
            refine ⟨q1.1, q1.2, q2.1, q2.2, hab, fun x => ⟨fun hx => (e2 x).mp (hs x ((e1 x).mpr hx)), fun hx => (e1 x).mp (nd_same n1 hs (by omega) x ((e2 x).mpr hx))⟩⟩
          · rintro ⟨_, _, _, _, _, hs⟩
            have s12 : ∀ x ∈ k1, x ∈ k2 := fun x hx => (e2 x).mpr ((hs x).mp ((e1 x).mp hx))
            have s21 : ∀ x ∈ k2, x ∈ k1 := fun x hx => (e1 x).mpr ((hs x).mpr ((e2 x).mp hx))
            exact ⟨by have := nd_sub n1 s12; have := nd_sub n2 s21; omega, s12⟩
      · rw [decide_eq_false q2]
        exact iteT (kQ false H ⟨(fun z => by cases z), fun z => absurd ⟨z.2.2.1, z.2.2.2.1⟩ q2⟩ (fun _ _ z => z))
    · rw [decide_eq_false q1]
      exact iteT (kQ false H ⟨(fun z => by cases z), fun z => absurd ⟨z.1, z.2.1⟩ q1⟩ (fun _ _ z => z))
end
end Lh
set_option Elab.async false
set_option linter.all false
set_option maxRecDepth 100000
set_option maxHeartbeats 8000000
namespace Lh
open PySem PySem.Spec PyProof.Rows L2 SX
section
variable {P : Program} {w : World} {K : PySem.W.Frag} {mg : Str → Option Value} {base : Heap}
theorem scNbs : FnScope ["house", "around", "_", "door", "first", "second"] ["house"] (defScope (top 30)) := ⟨rfl, rfl, rfl, by decide +kernel, rfl, by decide +kernel, by decide +kernel⟩
/-- for each room its doors with the rooms behind them -/
def spNbs (K : PySem.W.Frag) : Sp := fun vs H Q _ => ∃ (p : Addr) (n : Int) (g : List Nat) (ds : List Door), vs = [.ref p] ∧ HouseAt K H p n g ds ∧ 0 ≤ n ∧ n ≤ 1000 ∧ ds.length ≤ 1000 ∧ (∀ d ∈ ds, 0 ≤ d.1 ∧ d.1 < n ∧ 0 ≤ d.2.1 ∧ d.2.1 < n ∧ d.1 ≠ d.2.1) ∧
  ∀ (H' : Hp) (q : Addr) (refs : List V) (nbs : List (List (Int × Int))), Same H H' → H q = none → H' q = some (.lst refs) → All2 (IsPrs H') refs nbs → NbOk n ds nbs → Q (.ref q) H'
def nbA (H : Hp) (D : Addr) (i : Nat) (H' : Hp) : Prop := ∃ rs : List Addr, rs.length = i ∧ rs.Nodup ∧ (∀ r ∈ rs, H r = none ∧ r ≠ D ∧ H' r = some (.lst [])) ∧ H' D = some (.lst (rs.map V.ref)) ∧ Same H H'
abbrev nbSt (p q : Addr) (v2 v3 v4 v5 : Option V) : L2.St := [some (.ref p), some (.ref q), v2, v3, v4, v5]
def nbB (n : Int) (ds : List Door) (p q : Addr) (H : Hp) (i : Nat) (σ : L2.St) (H' : Hp) : Prop := ∃ (rs : List Addr) (nbs : List (List (Int × Int))) (v2 v3 v4 v5 : Option V), σ = nbSt p q v2 v3 v4 v5 ∧ rs.Nodup ∧ (∀ r ∈ rs, H r = none) ∧ H q = none ∧ H' q = some (.lst (rs.map V.ref)) ∧ q ∉ rs ∧ Same H H' ∧ All2 (IsPrs H') (rs.map V.ref) nbs ∧ NbI n ds i nbs
theorem ok_nbs (B : Blt mg) (D : Dfn K mg "neighbours_of" (top 30)) : Cal P w K mg base CX0 1 "neighbours_of" ["house"] (spNbs K) := by
  have S' := scNbs
  refine D.cal0 scNbs (fun vs H Q E h => ?_) (fun _ _ _ _ _ _ us hl => match us, hl with | [_], _ => rfl) (fun f cdv A outer s H vs Q E hr h => ?_)
  · obtain ⟨p, n, g, ds, rfl, _⟩ := h
    rfl
  · obtain ⟨p, n, g, ds, rfl, ha, hn0, hn1, hds, hends, kQ⟩ := h
    obtain ⟨C, dx, t, refs, hc, h1, h2, h3⟩ := ha.ex
    refine ⟨_, (pss_cons (ps_setLc (i := 1) (own := [("_", 2)]) (g := gName 2) (by rfl) S'.nd rfl rfl (sw_true rfl rfl rfl (by decide +kernel)) (pi_range1 rfl B.range (pa_cons (pe_fld (pv 0) rfl) pa_nil)) (blkOk_by (N := ["house", "around", "_", "door", "first", "second"]) (sc := defScope (top 30)) (by decide +kernel)) (fun _ _ _ _ _ => (pg_name (i := 2) S'.nd rfl (Or.inl rfl))) (fun _ _ _ _ _ => pts_nil) (fun _ _ _ _ _ => (pe_lst pa_nil)))
 (pss_cons (ps_for PassesOwn.never rfl (pi_enumT (by rfl) B.enumerate (pa_cons (pe_fld (pv 0) rfl) pa_nil)) (pg_tup rfl (pgs_cons (pg_name (i := 3) S'.nd rfl (Or.inl rfl)) (pgs_cons (pg_tup rfl (pgs_cons (pg_name (i := 4) S'.nd rfl (Or.inl rfl)) (pgs_cons (pg_name (i := 5) S'.nd rfl (Or.inl rfl)) (pgs_cons (pg_name (i := 2) S'.nd rfl (Or.inl rfl)) pgs_nil)))) pgs_nil)))
  (pss_cons (ps_expr (pe_bm PySem.F.plainAttrs_list PySem.F.slot_list_append PySem.F.type_list_append mt_append (pe_ix ix_list (pv 1) (pv 4) (fun _ _ => rfl)) (pa_cons (pe_tup (pa_cons (pv 3) (pa_cons (pv 5) pa_nil))) pa_nil)))
 (pss_one (ps_expr (pe_bm PySem.F.plainAttrs_list PySem.F.slot_list_append PySem.F.type_list_append mt_append (pe_ix ix_list (pv 1) (pv 5) (fun _ _ => rfl)) (pa_cons (pe_tup (pa_cons (pv 3) (pa_cons (pv 4) pa_nil))) pa_nil))))))
 (pss_one (ps_ret (pv 1))))), ?_⟩
    refine ⟨_, rfl, p, C, dx, _, _, rfl, h1, hc.cl, hc.nR, rfl, _, rfl, by omega, by omega, fun q hq => lc_range (lo := 0) (n := _) (nbA H q) ⟨[], rfl, List.nodup_nil, by simp, upd_same, same_new hq⟩ ?_ ?_⟩
    · rintro i H' hi ⟨rs, hl, nd, hrs, hD, sm⟩
      refine ⟨rfl, Nat.zero_le _, fun r hr => ⟨_, nk hD hr, ?_, ?_⟩⟩
      · rw [List.length_map, hl]
        exact small1000 (by omega)
      · have hrD : r ≠ q := fun z => by rw [z, hD] at hr; cases hr
        have sm2 := same_upd (o := .lst []) sm (sm.free hr)
        refine ⟨rs ++ [r], by simp [hl], ?_, fun x hx => ?_, by rw [upd_same, List.map_append]; rfl, same_upd sm2 hq⟩
        · refine List.nodup_append.mpr ⟨nd, by simp, fun a ha b hb e => ?_⟩
          rw [List.mem_singleton.mp hb] at e
          rw [e] at ha
          rw [(hrs r ha).2.2] at hr
          cases hr
        · rcases List.mem_append.mp hx with z | z
          · obtain ⟨a1, a2, a3⟩ := hrs x z
            refine ⟨a1, a2, ?_⟩
            rw [upd_ne a2]
            exact nk a3 hr
          · rw [List.mem_singleton.mp z]
            exact ⟨sm.free hr, hrD, by rw [upd_ne hrD, upd_same]⟩
    · rintro H1 ⟨rs, hl, nd, hrs, hD, sm⟩
      have n0 : nbB n ds p q H 0 (nbSt p q none none none none) H1 := by
        refine ⟨rs, List.replicate n.toNat [], _, _, _, _, rfl, nd, fun r hr => (hrs r hr).1, hq, hD, fun z => (hrs q z).2.1 rfl, sm, All2.of_get (by simp; omega) fun i v l hv hl => ?_, NbI.nil hn0⟩
        have e : l = [] := (List.mem_replicate.mp (List.mem_of_getElem? hl)).2
        subst e
        rw [List.getElem?_map] at hv
        obtain ⟨r, hr, rfl⟩ := Option.map_eq_some_iff.mp hv
        exact ⟨r, [], rfl, (hrs r (List.mem_of_getElem? hr)).2.2, .nil⟩
      refine ⟨_, rfl, p, C, dx, _, _, rfl, sm _ _ h1, hc.cl, hc.nD, rfl, t, refs, rfl, SqT.of (sm _ _ h2), for_it (walk_enumT (xs := refs)) (nbB n ds p q H) n0 ?_ ?_ ?_⟩
      · rintro i σ H2 hi ⟨rs, nbs, v2, v3, v4, v5, rfl, _, _, _, _, _, s2, _⟩
        exact SqT.of (s2 _ _ h2)
      · rintro i v σ H2 H3 hi ⟨rs, nbs, v2, v3, v4, v5, rfl, nd, hrs, hq0, hD, hqr, s2, a2, nb⟩ ⟨T, x, y, rfl, hT, rfl, ex, ey⟩
        cases ex
        obtain ⟨d, hd, hd2⟩ := h3.gtl ey
        obtain ⟨a, b, c⟩ := d
        obtain ⟨r, rfl, hr⟩ := hd2
        obtain ⟨a0, a1, b0, b1, hab⟩ : 0 ≤ a ∧ a < n ∧ 0 ≤ b ∧ b < n ∧ a ≠ b := hends _ (List.mem_of_getElem? hd)
        obtain ⟨x, rfl⟩ : ∃ x : Nat, a = (x : Int) := ⟨a.toNat, by omega⟩
        obtain ⟨y, rfl⟩ : ∃ y : Nat, b = (y : Int) := ⟨b.toNat, by omega⟩
        have hxy : x ≠ y := fun z => hab (by rw [z])
        have hlen := nb.len
        have hrl : rs.length = nbs.length := by
          have := a2.len
          simpa using this
        obtain ⟨rx, erx⟩ : ∃ rx, rs[x]? = some rx := ⟨_, List.getElem?_eq_getElem (by omega)⟩
        obtain ⟨ry, ery⟩ : ∃ ry, rs[y]? = some ry := ⟨_, List.getElem?_eq_getElem (by omega)⟩
        have hrs7 : i < 1000 := by
          have := h3.len
          omega
        -- the lists at x and y
        have sT : Same H (upd H2 T (.tup [.int (i : Int), .ref r])) := same_upd s2 (s2.free hT)
        refine ⟨T, _, rfl, SqT.of upd_same, rfl, _, _, rfl, _, _, rfl, r, _, rfl, SqT.of (sT _ _ hr), rfl, _, _, rfl, _, _, rfl, _, _, rfl, rfl, rfl, ?_⟩
        have hDT : (upd H2 T (.tup [.int (i : Int), .ref r])) q = some (.lst (rs.map V.ref)) := nk hD hT
        have aT : All2 (IsPrs (upd H2 T (.tup [.int (i : Int), .ref r]))) (rs.map V.ref) nbs := a2.imp fun v l z => z.same (same_new hT)
        obtain ⟨lx, elx⟩ : ∃ l, nbs[x]? = some l := ⟨_, List.getElem?_eq_getElem (by omega)⟩
        obtain ⟨_, ev, _, px, e, hpx, apx⟩ := aT.get elx
        rw [List.getElem?_map, erx] at ev
        cases ev
        cases e
        have ix : atI (rs.map V.ref) (x : Int) = some (.ref rx) := at_of (j := x) rfl (by rw [List.getElem?_map, erx]; rfl)
        have iy : atI (rs.map V.ref) (y : Int) = some (.ref ry) := at_of (j := y) rfl (by rw [List.getElem?_map, ery]; rfl)
        have spx : px.length < sizeLine := by
          have q1 := nb.short _ (List.mem_of_getElem? elx)
          have q2 := apx.len
          exact Nat.lt_of_le_of_lt (by omega : px.length ≤ 2000) (by decide)
        refine ⟨_, rfl, _, rfl, q, _, _, _, rfl, rfl, SqL.of hDT, ix, .inl ⟨rfl, _, SqL.of hpx⟩, _, rfl, _, rfl, (by show 2 ≤ sizeLine; decide), fun t1 ht1 => ⟨rx, px, _, rfl, rfl, nk hpx ht1, spx, ?_⟩⟩
        have q1 : q ≠ rx := fun z => hqr (by rw [z]; exact List.mem_of_getElem? erx)
        have s1T := same_upd (o := .tup [.int (i : Int), .int (y : Int)]) sT (sT.free ht1)
        have a1T : All2 (IsPrs (upd (upd H2 T (.tup [.int (i : Int), .ref r])) t1 (.tup [.int (i : Int), .int (y : Int)]))) (rs.map V.ref) nbs := aT.imp fun v l z => z.same (same_new ht1)
        have aX := nbs_put (q := ((i : Int), (y : Int))) a1T nd erx (nk hpx ht1) ⟨t1, rfl, upd_same⟩
        have sX := same_upd (o := .lst (px ++ [.ref t1])) s1T (hrs rx (List.mem_of_getElem? erx))
        have hDX : (upd (upd (upd H2 T (.tup [.int (i : Int), .ref r])) t1 (.tup [.int (i : Int), .int (y : Int)])) rx (.lst (px ++ [.ref t1]))) q = some (.lst (rs.map V.ref)) := by
          rw [upd_ne q1]
          exact nk hDT ht1
        -- the second one
        have gy : (nbPut nbs x ((i : Int), (y : Int)))[y]? = nbs[y]? := by
          unfold nbPut
          rw [List.getElem?_set_ne hxy]
        obtain ⟨ly, ely⟩ : ∃ l, nbs[y]? = some l := ⟨_, List.getElem?_eq_getElem (by omega)⟩
        obtain ⟨_, ev, _, py, e, hpy, apy⟩ := aX.get (gy.trans ely)
        rw [List.getElem?_map, ery] at ev
        cases ev
        cases e
        have spy : py.length < sizeLine := by
          have q1 := nb.short _ (List.mem_of_getElem? ely)
          have q2 := apy.len
          exact Nat.lt_of_le_of_lt (by omega : py.length ≤ 2000) (by decide)
        refine ⟨_, rfl, _, rfl, q, _, _, _, rfl, rfl, SqL.of hDX, iy, .inl ⟨rfl, _, SqL.of hpy⟩, _, rfl, _, rfl, (by show 2 ≤ sizeLine; decide), fun t2 ht2 => ⟨ry, py, _, rfl, rfl, nk hpy ht2, spy, ?_⟩⟩
        have q2 : q ≠ ry := fun z => hqr (by rw [z]; exact List.mem_of_getElem? ery)
        have a2T := aX.imp fun v l z => z.same (same_new (o := .tup [.int (i : Int), .int (x : Int)]) ht2)
        have aY := nbs_put (q := ((i : Int), (x : Int))) a2T nd ery (nk hpy ht2) ⟨t2, rfl, upd_same⟩
        refine ⟨rs, _, _, _, _, _, rfl, nd, hrs, hq0, ?_, hqr, same_upd (same_upd sX (sX.free ht2)) (hrs ry (List.mem_of_getElem? ery)), aY, nb.more hd a1 b1 hxy⟩
        rw [upd_ne q2]
        exact nk hDX ht2
      · rintro σ H2 ⟨rs, nbs, v2, v3, v4, v5, rfl, nd, hrs, hq0, hD, hqr, s2, a2, nb⟩
        exact ⟨_, rfl, kQ H2 q _ nbs s2 hq hD a2 (by rw [h3.len] at nb; exact nb)⟩
end
end Lh
set_option Elab.async false
set_option linter.all false
set_option maxRecDepth 100000
set_option maxHeartbeats 4000000
/-! name = {k: v for ..}. -/
namespace Lh
open PySem PySem.Spec PyProof.Rows L2
section
variable {X : Cx}
theorem sw_dc {kx vx : Expr} {gs : List Comprehension} {scope : Scope} {pos py : Pos} {y : Str} {l : Nat} {env : Env} (hk : env.scope.kind = .function) (hy : env.scope.names.lookup y = some .local) (hl : (py.line == pos.line) = true)
    (ha : (scope.names.any fun (n, k) => n == y && (k == .local || k == .cell)) = false) : swapsWith (.DictComp kx vx gs scope pos) (some (.Name y py)) l env = pure true := by
  have e1 : env.kindOf y = some .local := hy
  have e2 : env.blockKind = .function := by
    unfold Env.blockKind
    rw [hk]
    rfl
  unfold swapsWith
  simp only [e1, e2, ha, Expr.pos, hl]
  rfl
theorem ps_setDc {i : Nat} {y : Str} {py : Pos} {kx vx tg iter : Expr} {ifs : List Expr} {scope : Scope} {own : List (Str × Nat)} {pos spos : Pos} {wi : TI} {g : TG} {tt : TT} {tk tv : TE} (hc : X.calm = true) (hN : X.N.Nodup) (hy : X.N[i]? = some y) (hyl : X.env.scope.names.lookup y = some .local)
    (hsw : swapsWith (.DictComp kx vx [⟨tg, iter, ifs, 0⟩] scope pos) (some (.Name y py)) spos.line X.env = pure true) (hi : PI X tg iter wi) (ok : BlkOk X.N X.env.scope scope own)
    (hg : ∀ (s : Shared) (H : Hp) (C : Addr) (cl : List (Str × Addr)) (fp : List Addr), PG (X.blk s H scope (compEnvC scope cl C X.env) fp) tg g)
    (ht : ∀ (s : Shared) (H : Hp) (C : Addr) (cl : List (Str × Addr)) (fp : List Addr), PTs (X.blk s H scope (compEnvC scope cl C X.env) fp) ifs tt)
    (hk : ∀ (s : Shared) (H : Hp) (C : Addr) (cl : List (Str × Addr)) (fp : List Addr), PE (X.blk s H scope (compEnvC scope cl C X.env) fp) kx tk)
    (he : ∀ (s : Shared) (H : Hp) (C : Addr) (cl : List (Str × Addr)) (fp : List Addr), PE (X.blk s H scope (compEnvC scope cl C X.env) fp) vx tv) (hs : ∀ x, foldedSetIterable iter X.env x = pure x := by intro _; rfl) :
    PS X (.Assign [.Name y py] (.DictComp kx vx [⟨tg, iter, ifs, 0⟩] scope pos) spos) (tAsg (tDc wi g tt tk tv (own.map (·.2))) (gName i)) := by
  refine ⟨fun pins s σ H D I h => ?_⟩
  rw [exec_Assign_Name_used _ _ _ _ hsw]
  refine wpAny_bind (wpAny_standAt (wpAny_bind ?_))
  have h : tDc wi g tt tk tv (own.map (·.2)) σ H (fun x H1 => gName i x σ H1 D.nx) := h
  refine wpAny_bind (thn (dc_core (Qf := fun _ s' => SP X pins D .next s') hc hN I hi ok hg ht hk he hs h fun L C s' m H' I' q hn f => ?_) fun _ s' hq => wpAny_pure (wpAny_pure hq))
  refine wpAny_assign_Name (store_ok2 (v := V.ref L) I' hN hy (.inl hyl) rfl (fun s2 I2 z => ?_) (.inr hyl))
  obtain ⟨a, sb, ha⟩ := z
  obtain ⟨f0, f1, f2, f3, f4, f5⟩ := f
  have hca : C ≠ a := ha.elim (fun z => by rw [z]; exact f1) fun z e => f4 y a z e.symm
  exact ⟨m, hn.sameBut sb hca, fun h3 sb3 => ⟨_, H', I2.turned (t' := s2.toks) (fun b o hb e => (sb3.2 b hb).trans e) f0 f1 f3 f4 f5, q⟩⟩
end
/-- a dict comprehension over anything that is walked -/
theorem dc_it {J : It} {n : Nat} {G : Hp → Prop} {Y : Nat → Hp → V → Hp → Prop} (w : Walk J n G Y) {g : TG} {tt : TT} {tk tv : TE} {vs : List Nat} {σ : L2.St} {H1 : Hp} {D : Addr} {Qd : Hp → Prop} (Pv : Nat → Hp → Prop) (h0 : Pv 0 (upd H1 D (.dK []))) (hG : ∀ i H, i ≤ n → Pv i H → G H)
    (hs : ∀ i x H H', i < n → Pv i H → Y i H x H' → g x (wipe σ vs) H' fun σ2 H2 => wipe σ2 vs = wipe σ vs ∧ tt σ2 H2 fun b H3 =>
      if b = true then tk σ2 H3 fun y H4 => tv σ2 H4 fun z H5 => ∃ kvs k, y = kV k ∧ H5 D = some (.dK kvs) ∧ kvs.length < sizeLine ∧ Pv (i + 1) (upd H5 D (.dK (putK kvs k z))) else Pv (i + 1) H3) (hd : ∀ H, Pv n H → Qd H) :
    ∃ W : Nat → Nat → Hp → Prop, (∃ m, W 0 m (upd H1 D (.dK []))) ∧ ∀ i m H, W i m H →
      (J.stop i H ∧ Qd H) ∨ (J.go i H ∧ ∃ Nx : Hp → Prop, (∀ H', Nx H' → ∃ m', m' < m ∧ W (i + 1) m' H') ∧ ∀ x H', J.yld i H x H' → g x (wipe σ vs) H' fun σ2 H2 => wipe σ2 vs = wipe σ vs ∧ tt σ2 H2 fun b H3 =>
        if b = true then tk σ2 H3 fun y H4 => tv σ2 H4 fun z H5 => ∃ kvs k, y = kV k ∧ H5 D = some (.dK kvs) ∧ kvs.length < sizeLine ∧ Nx (upd H5 D (.dK (putK kvs k z))) else Nx H3) := by
  refine ⟨fun i m H => m = n - i ∧ i ≤ n ∧ Pv i H, ⟨n, by simp, Nat.zero_le _, h0⟩, ?_⟩
  rintro i m H ⟨rfl, hi, p⟩
  by_cases hlt : i < n
  · exact .inr ⟨w.goes i H hlt (hG i H hi p), Pv (i + 1), fun H' p' => ⟨n - (i + 1), by omega, rfl, hlt, p'⟩, fun x H' y => hs i x H H' hlt p (w.yields i H x H' hlt (hG i H hi p) y)⟩
  · have e : i = n := by omega
    subst e
    exact .inl ⟨w.stops H (hG _ H hi p), hd H p⟩
end Lh
set_option Elab.async false
set_option linter.all false
set_option maxRecDepth 100000
set_option maxHeartbeats 8000000
namespace Lh
open PySem PySem.Spec PyProof.Rows L2 SX
theorem All2.perm {α β : Type} {R : α → β → Prop} {l l' : List α} (p : l'.Perm l) : ∀ {m : List β}, All2 R l m → ∃ m', m'.Perm m ∧ All2 R l' m' := by
  induction p with
  | nil => exact fun a => ⟨_, List.Perm.refl _, a⟩
  | cons x _ ih =>
    intro m a
    cases a with
    | cons r t =>
      obtain ⟨m', p', a'⟩ := ih t
      exact ⟨_, p'.cons _, .cons r a'⟩
  | swap x y l =>
    intro m a
    cases a with
    | cons r t =>
      cases t with
      | cons r2 t2 => exact ⟨_, List.Perm.swap _ _ _, .cons r2 (.cons r t2)⟩
  | trans _ _ ih1 ih2 =>
    intro m a
    obtain ⟨m1, p1, a1⟩ := ih2 a
    obtain ⟨m2, p2, a2⟩ := ih1 a1
    exact ⟨m2, p2.trans p1, a2⟩
def cV : Option Int → V
  | none => .non
  | some w => .int w
/-- the heap while ways are sought -/
structure WHp (H1 H' : Hp) (D1 D2 q : Addr) (ls ms qs : List (Int × Int)) : Prop where
  sm : Same H1 H'
  n1 : H1 D1 = none
  n2 : H1 D2 = none
  n3 : H1 q = none
  ne : D1 ≠ D2
  d1 : H' D1 = some (.dK (ls.map kvOf))
  d2 : H' D2 = some (.dK (ms.map kvOf))
  qu : ∃ refs, H' q = some (.lst refs) ∧ All2 (IsPr H') refs qs
section
variable {P : Program} {w : World} {K : PySem.W.Frag} {mg : Str → Option Value} {base : Heap}
theorem scWay : FnScope ["house", "costs", "rooms", "around", "cost_to", "room", "door_to", "queue", "cost", "door", "behind", "total"] ["house", "costs", "rooms"] (defScope (top 31)) := ⟨rfl, rfl, rfl, by decide +kernel, rfl, by decide +kernel, by decide +kernel⟩
def wBound (n M : Int) : Nat := 2 * (n.toNat * ((n * M).toNat + 1)) + n.toNat
/-- cheapest ways from rooms -/
def spWay (K : PySem.W.Frag) : Sp := fun vs H Q _ => ∃ (p cl rl : Addr) (n M : Int) (g : List Nat) (ds : List Door) (cs : List (Option Int)) (rs : List Int), vs = [.ref p, .ref cl, .ref rl] ∧ HouseAt K H p n g ds ∧ n ≤ 1000 ∧ ds.length ≤ 1000 ∧ SqL K H cl (cs.map cV) ∧ cs.length = ds.length ∧ SqL K H rl (rs.map V.int) ∧ rs.Nodup ∧
  WCtx n M ds cs rs ∧ wBound n M < sizeLine ∧
  ∀ (H' : Hp) (t D1 D2 : Addr) (srcs : List Int) (ls ms : List (Int × Int)), Same H H' → H t = none → H D1 = none → H D2 = none → D1 ≠ D2 → H' t = some (.tup [.ref D1, .ref D2]) → H' D1 = some (.dK (ls.map kvOf)) → H' D2 = some (.dK (ms.map kvOf)) → srcs.Perm rs → srcs.Pairwise (· ≤ ·) → WInv n M ds cs srcs ls ms [] none → Q (.ref t) H'
abbrev wSt (p cl rl ar D1 D2 q : Addr) (v5 v8 v9 v10 v11 : Option V) : L2.St := [some (.ref p), some (.ref cl), some (.ref rl), some (.ref ar), some (.ref D1), v5, some (.ref D2), some (.ref q), v8, v9, v10, v11]
def wayW (n M : Int) (ds : List Door) (cs : List (Option Int)) (srcs : List Int) (p cl rl ar D1 D2 q : Addr) (H1 : Hp) (m : Nat) (σ : L2.St) (H' : Hp) : Prop := ∃ (ls ms qs : List (Int × Int)) (v5 v8 v9 v10 v11 : Option V), σ = wSt p cl rl ar D1 D2 q v5 v8 v9 v10 v11 ∧ WHp H1 H' D1 D2 q ls ms qs ∧
  WInv n M ds cs srcs ls ms qs none ∧ 2 * pot n M ls + qs.length = m ∧ m ≤ wBound n M
def wayF (n M : Int) (ds : List Door) (cs : List (Option Int)) (srcs : List Int) (p cl rl ar D1 D2 q : Addr) (H1 : Hp) (m : Nat) (r c : Int) (nb : List (Int × Int)) (i : Nat) (σ : L2.St) (H' : Hp) : Prop := ∃ (ls ms qs : List (Int × Int)) (v9 v10 v11 : Option V), σ = wSt p cl rl ar D1 D2 q (some (.int r)) (some (.int c)) v9 v10 v11 ∧ WHp H1 H' D1 D2 q ls ms qs ∧
  WInv n M ds cs srcs ls ms qs (some (r, nb.drop i)) ∧ lk ls r = some c ∧ 2 * pot n M ls + qs.length < m
theorem dget_of {H : Hp} {D : Addr} {ls : List (Int × Int)} (r : Int) (h : H D = some (.dK (ls.map kvOf))) : DGet H D (.int r) ((lk ls r).map V.int) := by
  have q := DGet.k (k := Sum.inl r) h
  rw [valV_of] at q
  exact q
theorem prs_of {H' : Hp} {refs : List V} {qs : List (Int × Int)} (h : All2 (IsPr H') refs qs) : ∀ y ∈ refs, ∃ (t : Addr) (i j : Int), y = .ref t ∧ H' t = some (.tup [.int i, .int j]) := fun y hy => by
  obtain ⟨k, hk⟩ := List.getElem?_of_mem hy
  obtain ⟨b, _, r, e, hr⟩ := h.gtl hk
  exact ⟨r, b.1, b.2, e, hr⟩
theorem pot_le {n M : Int} {ds : List Door} {cs : List (Option Int)} {srcs : List Int} {ls ms qs : List (Int × Int)} {cur : Option (Int × List (Int × Int))} (x : WCtx n M ds cs srcs) (h : WInv n M ds cs srcs ls ms qs cur) : pot n M ls ≤ n.toNat * ((n * M).toNat + 1) := by
  have key : ∀ (l : List Nat), (l.map (pot1 n M ls)).sum ≤ l.length * ((n * M).toNat + 1) := fun l => by
    induction l with
    | nil => simp
    | cons a l ih =>
      rw [List.map_cons, List.sum_cons, List.length_cons, Nat.add_mul]
      have : pot1 n M ls a ≤ (n * M).toNat + 1 := by
        unfold pot1
        cases e : lk ls a with
        | none => exact Nat.le_refl _
        | some v =>
          have q := h.rng _ _ e
          have hlen := h.len x
          have m0 := x.m0
          have : (ls.length : Int) * M ≤ n * M := Int.mul_le_mul_of_nonneg_right hlen x.m0
          show v.toNat ≤ _
          omega
      omega
  have := key (List.range n.toNat)
  rw [List.length_range] at this
  exact this
theorem ok_way (B : Blt mg) (G : Glb mg) (D : Dfn K mg "ways_from" (top 31)) (c_neighbours_of : Cal P w K mg base CX0 1 "neighbours_of" ["house"] (spNbs K)) : Cal P w K mg base CX0 2 "ways_from" ["house", "costs", "rooms"] (spWay K) := by
  have S' := scWay
  refine D.cal0 scWay (fun vs H Q E h => ?_) (fun _ _ _ _ _ _ us hl => match us, hl with | [_, _, _], _ => rfl) (fun f cdv A outer s H vs Q E hr h => ?_)
  · obtain ⟨p, cl, rl, n, M, g, ds, cs, rs, rfl, _⟩ := h
    rfl
  · obtain ⟨p, cl, rl, n, M, g, ds, cs, rs, rfl, ha, hn1, hds, hcl, hcs, hrl, hrn, wx, hB, kQ⟩ := h
    refine ⟨_, (pss_cons (ps_set (i := 3) S'.nd rfl (Or.inl rfl) (pcl c_neighbours_of hr (pa_cons (pv 0) pa_nil)))
 (pss_cons (ps_setDc (i := 4) (own := [("room", 5)]) (g := gName 5) (by rfl) S'.nd rfl rfl (sw_dc rfl rfl rfl (by decide +kernel)) (pi_list (pe_callB cr_sortedI (by rfl) B.sorted (by decide +kernel) (pa_cons (pv 2) pa_nil))) (blkOk_by (N := ["house", "costs", "rooms", "around", "cost_to", "room", "door_to", "queue", "cost", "door", "behind", "total"]) (sc := defScope (top 31)) (by decide +kernel)) (fun _ _ _ _ _ => (pg_name (i := 5) S'.nd rfl (Or.inl rfl))) (fun _ _ _ _ _ => pts_nil) (fun _ _ _ _ _ => (pv 5)) (fun _ _ _ _ _ => pe_int))
 (pss_cons (ps_set (i := 6) S'.nd rfl (Or.inl rfl) pe_dnewK)
 (pss_cons (ps_lock (ps_setLc (i := 7) (own := [("room", 5)]) (g := gName 5) (by rfl) S'.nd rfl rfl (sw_true rfl rfl rfl (by decide +kernel)) (pi_keys (pv 4)) (blkOk_by (N := ["house", "costs", "rooms", "around", "cost_to", "room", "door_to", "queue", "cost", "door", "behind", "total"]) (sc := defScope (top 31)) (by decide +kernel)) (fun _ _ _ _ _ => (pg_name (i := 5) S'.nd rfl (Or.inl rfl))) (fun _ _ _ _ _ => pts_nil) (fun _ _ _ _ _ => (pe_tup (pa_cons pe_int (pa_cons (pv 5) pa_nil))))))
 (pss_cons (ps_while PassesOwn.never (pt_truth (pv 7) (by intro _; rfl)) (pss_cons (ps_asg (pe_callG (call_pop (hu_of hr)) (by rfl) G.pop (pa_cons (pv 7) pa_nil)) (pg_tup rfl (pgs_cons (pg_name (i := 8) S'.nd rfl (Or.inl rfl)) (pgs_cons (pg_name (i := 5) S'.nd rfl (Or.inl rfl)) pgs_nil))))
 (pss_cons (ps_if (pt_cmpR op_gt (pv 8) (pe_dget (hu_of hr) (pv 4) (pv 5) (fun _ _ => rfl)) (nomark _)) (pss_one ps_continue) pss_nil)
 (pss_one (ps_for PassesOwn.never rfl (pi_list (pe_ix ix_list (pv 3) (pv 5) (fun _ _ => rfl))) (pg_tup rfl (pgs_cons (pg_name (i := 9) S'.nd rfl (Or.inl rfl)) (pgs_cons (pg_name (i := 10) S'.nd rfl (Or.inl rfl)) pgs_nil)))
  (pss_cons (ps_if (pt_cmpR op_isN (pe_ix ix_list (pv 1) (pv 9) (fun _ _ => rfl)) pe_non (nomark _)) (pss_one ps_continue) pss_nil)
 (pss_cons (ps_set (i := 11) S'.nd rfl (Or.inl rfl) (pe_op op_add (pv 8) (pe_ix ix_list (pv 1) (pv 9) (fun _ _ => rfl))))
 (pss_one (ps_if (PW.pt (pw_or (pt_cmp (pc_dnotin (hu_of hr) (pv 10) (pv 4))) (pw_or1 (pt_cmpR op_lt (pv 11) (pe_dget (hu_of hr) (pv 4) (pv 10) (fun _ _ => rfl)) (nomark _))))) (pss_cons (ps_dput (hu_of hr) (pv 4) (pv 10) (pv 11) rfl)
 (pss_cons (ps_dput (hu_of hr) (pv 6) (pv 10) (pv 9) rfl)
 (pss_one (ps_expr (pe_callG (call_push (hu_of hr)) (by rfl) G.push (pa_cons (pv 7) (pa_cons (pe_tup (pa_cons (pv 11) (pa_cons (pv 10) pa_nil))) pa_nil))))))) pss_nil)))))))))
 (pss_one (ps_ret (pe_tup (pa_cons (pv 4) (pa_cons (pv 6) pa_nil)))))))))), ?_⟩
    refine ⟨_, rfl, p, n, g, ds, rfl, ha, wx.n0, hn1, hds, wx.ends, fun H1 ar arefs nbs s1 har hA aA nb => ?_⟩
    refine ⟨_, rfl, rl, rs, rfl, s1.seq hrl, fun srcs sl pm sr hsl => ⟨sl, rfl, ⟨_, SqL.of upd_same⟩, fun D1 hD1 => dc_it (walk_list (xs := srcs.map V.int)) (fun i H' => H' = upd (upd H1 sl (.lst (srcs.map V.int))) D1 (.dK (((srcs.take i).map fun r => (r, (0 : Int))).map kvOf))) rfl ?_ ?_ ?_⟩⟩
    · rintro i H' _ rfl
      exact SqL.of (nk upd_same hD1)
    · rintro i x H' H'' hi rfl ⟨rfl, hx⟩
      rw [List.getElem?_map] at hx
      obtain ⟨r, hr', rfl⟩ := Option.map_eq_some_iff.mp hx
      have ndS : srcs.Nodup := pm.nodup_iff.mpr hrn
      have hlt := (List.getElem?_eq_some_iff.mp hr').1
      have hnew : lk ((srcs.take i).map fun r => (r, (0 : Int))) r = none := by
        cases e : lk ((srcs.take i).map fun r => (r, (0 : Int))) r with
        | none => rfl
        | some v =>
          obtain ⟨m, _⟩ := lk_zero e
          obtain ⟨j, hj⟩ := List.getElem?_of_mem m
          have hji : j < i := by
            have := (List.getElem?_eq_some_iff.mp hj).1
            rw [List.length_take] at this
            omega
          rw [List.getElem?_take_of_lt hji] at hj
          have := nd_ix ndS hj hr'
          omega
      refine ⟨rfl, _, rfl, _, Sum.inl r, rfl, upd_same, ?_, ?_⟩
      · rw [List.length_map, List.length_map, List.length_take]
        have : srcs.length ≤ 1000 := by
          rw [pm.length_eq]
          rcases nodup_len hrn wx.src with e | e
          · omega
          · rw [e]; simp
        exact small1000 (by omega)
      · rw [upd_upd, putK_of]
        congr 3
        unfold putL
        rw [any_lk, hnew]
        rw [List.take_add_one, hr', List.map_append]
        rfl
    · rintro H' rfl
      rw [List.take_of_length_le (by simp)]
      have ndS : srcs.Nodup := pm.nodup_iff.mpr hrn
      have slen : srcs.length ≤ 1000 := by
        rw [pm.length_eq]
        rcases nodup_len hrn wx.src with e | e
        · omega
        · rw [e]; simp
      obtain ⟨H2, eH2⟩ : ∃ H2, H2 = upd (upd H1 sl (.lst (srcs.map V.int))) D1 (.dK ((srcs.map fun r => (r, (0 : Int))).map kvOf)) := ⟨_, rfl⟩
      rw [← eH2]
      have d12 : H2 D1 = some (.dK ((srcs.map fun r => (r, (0 : Int))).map kvOf)) := by rw [eH2, upd_same]
      have s2 : Same H1 H2 := by
        rw [eH2]
        exact same_upd (same_new hsl) ((same_new hsl).free hD1)
      have nD1 : H1 D1 = none := (same_new hsl).free hD1
      refine fun D2 hD2 => ?_
      have s3 := same_upd (o := .dK []) s2 (s2.free hD2)
      have ne12 : D1 ≠ D2 := fun z => by rw [z, hD2] at d12; cases d12
      refine ⟨D1, _, nk d12 hD2, trivial, fun od => ⟨_, rfl, D1, od, rfl, .inl ⟨_, upd_same, fun q hq => lc_it (walk_keys (kvs := (srcs.map fun r => (r, (0 : Int))).map kvOf)) (fun i H' => ∃ refs, Same (upd (upd H2 D2 (.dK [])) D1 (.frz od (.dK ((srcs.map fun r => (r, (0 : Int))).map kvOf)))) H' ∧ H' q = some (.lst refs) ∧ All2 (IsPr H') refs ((srcs.take i).map fun r => ((0 : Int), r))) ⟨[], same_new hq, upd_same, .nil⟩ ?_ ?_ ?_⟩⟩⟩
      · rintro i H' _ ⟨refs, sm, _, _⟩
        exact sm _ _ upd_same
      · rintro i x H5 H6 hi ⟨refs, sm, hq', a2⟩ ⟨rfl, k, v, hkv, rfl⟩
        rw [List.getElem?_map, List.getElem?_map] at hkv
        obtain ⟨_, hkv, e⟩ := Option.map_eq_some_iff.mp hkv
        obtain ⟨r, hr', rfl⟩ := Option.map_eq_some_iff.mp hkv
        cases e
        have hlt := (List.getElem?_eq_some_iff.mp hr').1
        refine ⟨rfl, _, rfl, (by show 2 ≤ sizeLine; decide), fun t ht => ⟨refs, nk hq' ht, ?_, refs ++ [.ref t], ?_, upd_same, ?_⟩⟩
        · have := a2.len
          rw [List.length_map, List.length_take] at this
          exact small1000 (by omega)
        · exact same_upd (same_upd sm (sm.free ht)) hq
        · rw [List.take_add_one, hr', List.map_append]
          have k2 : ∀ xs, (upd H6 t (.tup [.int 0, .int r])) q ≠ some (.tup xs) := fun xs z => by
            rw [nk hq' ht] at z
            cases z
          refine ((a2.imp fun v q z => z.same (same_new ht)).imp (IsPr.keep k2)).app (.cons ⟨t, rfl, ?_⟩ .nil)
          have : t ≠ q := fun z => by rw [z, hq'] at ht; cases ht
          rw [upd_ne this, upd_same]
      · rintro H5 ⟨refs, sm, hq', a2⟩
        have hfz : H5 D1 = some (.frz od (.dK ((srcs.map fun r => (r, (0 : Int))).map kvOf))) := sm _ _ upd_same
        refine ⟨hfz, ?_⟩
        have nq1 : q ≠ D1 := fun z => by rw [z, upd_same] at hq; cases hq
        have nq2 : q ≠ D2 := fun z => by
          rw [z, upd_ne ne12.symm, upd_same] at hq
          cases hq
        have w0 : WHp H1 (upd H5 D1 (.dK ((srcs.map fun r => (r, (0 : Int))).map kvOf))) D1 D2 q (srcs.map fun r => (r, (0 : Int))) [] (srcs.map fun r => ((0 : Int), r)) := by
          refine ⟨fun b o e => ?_, nD1, s2.free hD2, ?_, ne12, upd_same, ?_, refs, ?_, ?_⟩
          · have hb1 : b ≠ D1 := fun z => by rw [z, nD1] at e; cases e
            rw [upd_ne hb1]
            refine sm _ _ ?_
            rw [upd_ne hb1]
            exact s3 _ _ e
          · rw [upd_ne nq1, upd_ne nq2] at hq
            exact s2.free hq
          · rw [upd_ne ne12.symm]
            refine sm _ _ ?_
            rw [upd_ne ne12.symm, upd_same]
            rfl
          · rw [upd_ne nq1]
            exact hq'
          · rw [List.take_of_length_le (by simp)] at a2
            exact a2.imp (IsPr.keep (by rw [hfz]; intro _ z; cases z))
        have wx' : WCtx n M ds cs srcs := ⟨wx.n0, wx.m0, wx.ends, wx.cost, fun r hr => wx.src r (pm.mem_iff.mp hr)⟩
        have W0 := WInv.start wx' ndS
        have hm0 : 2 * pot n M (srcs.map fun r => (r, (0 : Int))) + (srcs.map fun r => ((0 : Int), r)).length ≤ wBound n M := by
          have h1 := pot_le wx' W0
          rw [List.length_map]
          have h2 : srcs.length ≤ n.toNat := by
            rw [pm.length_eq]
            rcases nodup_len hrn wx.src with e | e
            · omega
            · rw [e]; simp
          unfold wBound
          omega
        generalize (srcs.map fun r => (r, (0 : Int))) = ls0 at w0 W0 hm0
        generalize (srcs.map fun r => ((0 : Int), r)) = qs0 at w0 W0 hm0
        generalize (upd H5 D1 (.dK (ls0.map kvOf))) = Hs at w0
        refine ⟨wayW n M ds cs srcs p cl rl ar D1 D2 q H1, ⟨_, ls0, [], qs0, _, _, _, _, _, rfl, w0, W0, rfl, hm0⟩, ?_⟩
        rintro m σ H7 ⟨ls, ms, qs, v5, v8, v9, v10, v11, rfl, wh, wi, hm, hmB⟩
        obtain ⟨refs7, hq7, aq7⟩ := wh.qu
        have len7 := aq7.len
        cases refs7 with
        | nil =>
          cases aq7
          refine ⟨_, rfl, false, .inl ⟨[], SqL.of hq7, rfl⟩, iteF ?_⟩
          refine ⟨_, rfl, _, rfl, (by show 2 ≤ sizeLine; decide), fun t ht => ?_⟩
          have sF := s1.trans wh.sm
          exact kQ _ t D1 D2 srcs ls ms (same_upd sF (sF.free ht)) (sF.free ht) (s1.free nD1) (s1.free wh.n2) ne12 upd_same (nk wh.d1 ht) (nk wh.d2 ht) pm sr wi
        | cons u0 us0 =>
        refine ⟨_, rfl, true, .inl ⟨u0 :: us0, SqL.of hq7, rfl⟩, iteT ?_⟩
        refine ⟨fun σ' H' => ∃ m', m' < m ∧ wayW n M ds cs srcs p cl rl ar D1 D2 q H1 m' σ' H', fun _ _ z => z, ?_⟩
        refine ⟨_, rfl, q, u0 :: us0, rfl, hq7, (by simp), prs_of aq7, fun v ys pmv => ?_⟩
        obtain ⟨qs', pq, av⟩ := aq7.perm pmv
        cases av with
        | cons iv ar' =>
        rename_i cr qs2
        obtain ⟨c, r⟩ := cr
        obtain ⟨t, rfl, ht⟩ := iv
        have wi2 := wi.perm pq
        have hlen2 : qs2.length + 1 = qs.length := by
          have := pq.length_eq
          simpa using this
        have ntq : t ≠ q := fun z => by rw [z, hq7] at ht; cases ht
        have ht2 : (upd H7 q (.lst ys)) t = some (.tup [.int c, .int r]) := by rw [upd_ne ntq]; exact ht
        have nD1q : D1 ≠ q := fun z => by
          have := wh.d1
          rw [z, hq7] at this
          cases this
        have nD2q : D2 ≠ q := fun z => by
          have := wh.d2
          rw [z, hq7] at this
          cases this
        have wh2 : WHp H1 (upd H7 q (.lst ys)) D1 D2 q ls ms qs2 := by
          refine ⟨same_upd wh.sm wh.n3, wh.n1, wh.n2, wh.n3, ne12, ?_, ?_, ys, upd_same, ar'.imp (IsPr.keep (by rw [hq7]; intro _ z; cases z))⟩
          · rw [upd_ne nD1q]
            exact wh.d1
          · rw [upd_ne nD2q]
            exact wh.d2
        generalize (upd H7 q (.lst ys)) = H8 at ht2 wh2
        obtain ⟨v, hv, hvc⟩ := wi2.que c r List.mem_cons_self
        have hdg := dget_of r wh2.d1
        rw [hv] at hdg
        refine ⟨t, _, rfl, SqT.of ht2, rfl, _, _, rfl, _, _, rfl, rfl, _, rfl, _, rfl, _, rfl, D1, _, rfl, hdg, _, _, rfl, rfl, _, rfl, ite2 (fun e => ?_) (fun e => ?_)⟩
        · have e0 : v < c := of_decide_eq_true e
          exact ⟨_, by omega, ls, ms, qs2, _, _, _, _, _, rfl, wh2, wi2.skip hv e0, rfl, by omega⟩
        · have e0 : ¬ v < c := fun z => e (decide_eq_true z)
          have evc : v = c := by omega
          subst evc
          obtain ⟨r0, r1, _, _⟩ := wi2.rng r v hv
          have nbl := nb.len
          obtain ⟨nbr, hnbr⟩ : ∃ l, nbs[r.toNat]? = some l := ⟨_, List.getElem?_eq_getElem (by omega)⟩
          have er : ((r.toNat : Nat) : Int) = r := by omega
          have hmem := nb.mem r.toNat nbr hnbr
          rw [er] at hmem
          have wi3 : WInv n M ds cs srcs ls ms qs2 (some (r, nbr)) := wi2.pick hv fun d b w' l => by
            obtain ⟨k, c', ek, h1', h2'⟩ := l
            have hk : k < ds.length := by
              rcases h2' with z | z <;> exact (List.getElem?_eq_some_iff.mp z).1
            exact (hmem d b).mpr ⟨k, c', hk, ek, h2'⟩
          obtain ⟨_, har', l, prefs, rfl, hl, apr⟩ := aA.get hnbr
          refine ⟨_, rfl, _, rfl, ar, _, _, _, rfl, rfl, SqL.of (wh2.sm _ _ hA), at_of (j := r.toNat) (by omega) har', l, rfl, ⟨_, SqL.of (wh2.sm _ _ hl)⟩, for_list (xs := prefs) (wayF n M ds cs srcs p cl rl ar D1 D2 q H1 m r v nbr) ⟨ls, ms, qs2, _, _, _, rfl, wh2, wi3, hv, by omega⟩ ?_ ?_ ?_⟩
          · rintro i σ H9 _ ⟨ls', ms', qs', v9, v10, v11, rfl, wh9, _⟩
            exact SqL.of (wh9.sm _ _ hl)
          · rintro i x σ H9 hx ⟨ls', ms', qs', v9, v10, v11, rfl, wh9, wi9, hv9, hm9⟩
            obtain ⟨db, hdb, pr⟩ := apr.gtl hx
            obtain ⟨d, b⟩ := db
            obtain ⟨t9, rfl, ht9⟩ := pr
            have hi := (List.getElem?_eq_some_iff.mp hdb).1
            have edrop : nbr.drop i = (d, b) :: nbr.drop (i + 1) := by
              rw [List.drop_eq_getElem_cons hi]
              rw [(List.getElem?_eq_some_iff.mp hdb).2]
            rw [edrop] at wi9
            obtain ⟨k, c', hk, rfl, hkd⟩ := (hmem d b).mp (List.mem_of_getElem? hdb)
            obtain ⟨w', hw'⟩ : ∃ w', cs[k]? = some w' := ⟨_, List.getElem?_eq_getElem (by omega)⟩
            have hcV : (cs.map cV)[k]? = some (cV w') := by rw [List.getElem?_map, hw']; rfl
            have sAll := s1.trans wh9.sm
            refine ⟨t9, _, rfl, SqT.of (wh9.sm _ _ ht9), rfl, _, _, rfl, _, _, rfl, rfl, ?_⟩
            refine ⟨_, rfl, _, rfl, cl, _, _, _, rfl, rfl, sAll.seq hcl, at_of (j := k) rfl hcV, rfl, _, rfl, ?_⟩
            cases w' with
            | none =>
              refine ite2 (fun _ => ?_) (fun z => absurd (decide_eq_true rfl) z)
              refine ⟨ls', ms', qs', _, _, _, rfl, wh9, wi9.past hv9 (fun w2 l2 => ?_), hv9, hm9⟩
              obtain ⟨k2, _, ek2, hk2, _⟩ := l2
              have : k = k2 := by omega
              subst this
              rw [hw'] at hk2
              cases hk2
            | some w2 =>
              refine ite2 (fun z => absurd (of_decide_eq_true z) (by intro q; cases q)) (fun _ => ?_)
              refine ⟨_, rfl, _, rfl, _, rfl, cl, _, _, _, rfl, rfl, sAll.seq hcl, at_of (j := k) rfl hcV, _, _, rfl, rfl, ?_⟩
              have lnk : Link ds cs (k : Int) r b w2 := ⟨k, c', rfl, hw', hkd⟩
              have past : (∃ u, lk ls' b = some u ∧ u ≤ v + w2) → wayF n M ds cs srcs p cl rl ar D1 D2 q H1 m r v nbr (i + 1) (wSt p cl rl ar D1 D2 q (some (.int r)) (some (.int v)) (some (.int (k : Int))) (some (.int b)) (some (.int (v + w2)))) H9 := fun hu => by
                refine ⟨ls', ms', qs', _, _, _, rfl, wh9, wi9.past hv9 (fun w3 l3 => ?_), hv9, hm9⟩
                obtain ⟨k2, _, ek2, hk2, _⟩ := l3
                have : k = k2 := by omega
                subst this
                rw [hw'] at hk2
                cases hk2
                exact hu
              have better : ∀ D' : Ends, (∀ σ' H', wayF n M ds cs srcs p cl rl ar D1 D2 q H1 m r v nbr (i + 1) σ' H' → D'.nx σ' H') → (∀ u, lk ls' b = some u → v + w2 < u) → tSeq (sDPut (tVar 4) (tVar 10) (tVar 11)) (tSeq (sDPut (tVar 6) (tVar 10) (tVar 9)) (tDrop (tCB rPush (tCons (tVar 7) (tCons (tTup (tCons (tVar 11) (tCons (tVar 10) tNil))) tNil))))) D'
                  (wSt p cl rl ar D1 D2 q (some (.int r)) (some (.int v)) (some (.int (k : Int))) (some (.int b)) (some (.int (v + w2)))) H9 := fun D' hD hb => by
                obtain ⟨wi10, hpot⟩ := wi9.better wx' hv9 lnk hb
                have ll1 := wi9.len wx'
                have ll2 := wi9.mlen wx'
                obtain ⟨refs9, hq9, aq9⟩ := wh9.qu
                have lq9 := aq9.len
                refine ⟨_, rfl, _, rfl, _, rfl, D1, _, rfl, DPut.k (k := Sum.inl b) wh9.d1 (by rw [List.length_map]; exact small1000 (by omega)), ?_⟩
                rw [putK_of]
                have d29 : (upd H9 D1 (.dK ((putL ls' b (v + w2)).map kvOf))) D2 = some (.dK (ms'.map kvOf)) := by rw [upd_ne ne12.symm]; exact wh9.d2
                refine ⟨_, rfl, _, rfl, _, rfl, D2, _, rfl, DPut.k (k := Sum.inl b) d29 (by rw [List.length_map]; exact small1000 (by omega)), ?_⟩
                rw [putK_of]
                have nq1 : q ≠ D1 := fun z => by
                  have := wh9.d1
                  rw [← z, hq9] at this
                  cases this
                have nq2 : q ≠ D2 := fun z => by
                  have := wh9.d2
                  rw [← z, hq9] at this
                  cases this
                obtain ⟨H10, eH10⟩ : ∃ H10, H10 = upd (upd H9 D1 (.dK ((putL ls' b (v + w2)).map kvOf))) D2 (.dK ((putL ms' b (k : Int)).map kvOf)) := ⟨_, rfl⟩
                rw [← eH10]
                have hq10 : H10 q = some (.lst refs9) := by rw [eH10, upd_ne nq2, upd_ne nq1]; exact hq9
                have hd10 : H10 D1 = some (.dK ((putL ls' b (v + w2)).map kvOf)) := by rw [eH10, upd_ne ne12, upd_same]
                have he10 : H10 D2 = some (.dK ((putL ms' b (k : Int)).map kvOf)) := by rw [eH10, upd_same]
                have sm10 : Same H1 H10 := by rw [eH10]; exact same_upd (same_upd wh9.sm wh9.n1) wh9.n2
                have aq10 : All2 (IsPr H10) refs9 qs' := by
                  rw [eH10]
                  refine (aq9.imp (IsPr.keep (by rw [wh9.d1]; intro _ z; cases z))).imp (IsPr.keep (by rw [d29]; intro _ z; cases z))
                refine ⟨_, rfl, _, rfl, _, rfl, (by show 2 ≤ sizeLine; decide), fun tp htp => ⟨q, refs9, .ref tp, rfl, nk hq10 htp, ?_, ?_, fun ys pys => hD _ _ ?_⟩⟩
                · rw [lq9]
                  exact Nat.lt_of_le_of_lt (by omega : qs'.length ≤ wBound n M) hB
                · have al : All2 (IsPr (upd H10 tp (.tup [.int (v + w2), .int b]))) (refs9 ++ [.ref tp]) (qs' ++ [(v + w2, b)]) := (aq10.imp fun v q z => z.same (same_new htp)).app (.cons ⟨tp, rfl, upd_same⟩ .nil)
                  exact prs_of al
                · have al : All2 (IsPr (upd H10 tp (.tup [.int (v + w2), .int b]))) (refs9 ++ [.ref tp]) (qs' ++ [(v + w2, b)]) := (aq10.imp fun v q z => z.same (same_new htp)).app (.cons ⟨tp, rfl, upd_same⟩ .nil)
                  obtain ⟨qs4, p4, al4⟩ := al.perm pys
                  have p5 : qs4.Perm ((v + w2, b) :: qs') := p4.trans (List.perm_append_singleton _ _)
                  have hl4 := p5.length_eq
                  simp at hl4
                  refine ⟨_, _, qs4, _, _, _, rfl, ⟨same_upd (same_upd sm10 (sm10.free htp)) wh9.n3, wh9.n1, wh9.n2, wh9.n3, ne12, ?_, ?_, ys, upd_same, ?_⟩, wi10.perm p5, ?_, ?_⟩
                  · rw [upd_ne nq1.symm]
                    exact nk hd10 htp
                  · rw [upd_ne nq2.symm]
                    exact nk he10 htp
                  · exact al4.imp (IsPr.keep (by rw [nk hq10 htp]; intro _ z; cases z))
                  · obtain ⟨_, _, _, _, hrb, _, _⟩ := wx'.link lnk
                    rw [lk_put, if_neg hrb]
                    exact hv9
                  · omega
              have hdg9 := dget_of b wh9.d1
              cases eb : lk ls' b with
              | none =>
                rw [eb] at hdg9
                refine ⟨_, rfl, _, rfl, D1, _, rfl, hdg9, _, rfl, iteT ?_⟩
                exact better _ (fun _ _ z => z) fun u hu => by rw [eb] at hu; cases hu
              | some u =>
                rw [eb] at hdg9
                refine ⟨_, rfl, _, rfl, D1, _, rfl, hdg9, _, rfl, iteF ?_⟩
                refine ⟨_, rfl, _, rfl, _, rfl, D1, _, rfl, hdg9, _, _, rfl, rfl, _, rfl, ite2 (fun e => ?_) (fun e => ?_)⟩
                · have e0 : v + w2 < u := of_decide_eq_true e
                  exact better _ (fun _ _ z => z) fun u' hu => by
                    rw [eb] at hu
                    cases hu
                    exact e0
                · have e0 : ¬ v + w2 < u := fun z => e (decide_eq_true z)
                  exact past ⟨u, eb, by omega⟩
          · rintro σ H9 ⟨ls', ms', qs', v9, v10, v11, rfl, wh9, wi9, hv9, hm9⟩
            rw [apr.len, List.drop_length] at wi9
            exact ⟨_, hm9, ls', ms', qs', _, _, _, _, _, rfl, wh9, wi9.leave, rfl, by omega⟩
end
end Lh
set_option Elab.async false
set_option linter.all false
set_option maxRecDepth 100000
set_option maxHeartbeats 8000000
namespace Lh
open PySem PySem.Spec PyProof.Rows L2 SX
theorem rep_get {m k : Nat} {v : Option Int} (h : (List.replicate m (some (1 : Int)))[k]? = some v) : v = some 1 ∧ k < m := by
  have hk := (List.getElem?_eq_some_iff.mp h).1
  rw [List.length_replicate] at hk
  rw [List.getElem?_replicate, if_pos hk] at h
  exact ⟨(Option.some.inj h).symm, hk⟩
theorem reach_of {ds : List Door} {x y : Int} (h : RchC ds (List.replicate ds.length (some 1)) x y) : Reach ds x y := by
  induction h with
  | refl => exact .refl _
  | step _ l ih =>
    obtain ⟨k, c, _, _, q⟩ := l
    exact .step ih (q.elim (fun q => .inl (List.mem_of_getElem? q)) fun q => .inr (List.mem_of_getElem? q))
theorem rchC_of {ds : List Door} {x y : Int} (h : Reach ds x y) : RchC ds (List.replicate ds.length (some 1)) x y := by
  induction h with
  | refl => exact .refl _
  | step _ l ih =>
    have mk : ∀ {a b : Int} {c : List Nat}, (a, b, c) ∈ ds → ∃ k : Nat, ds[k]? = some (a, b, c) ∧ (List.replicate ds.length (some (1 : Int)))[k]? = some (some 1) := fun hm => by
      obtain ⟨k, hk⟩ := List.getElem?_of_mem hm
      have hl := (List.getElem?_eq_some_iff.mp hk).1
      exact ⟨k, hk, by rw [List.getElem?_replicate, if_pos hl]⟩
    rcases l with l | l
    · obtain ⟨k, h1, h2⟩ := mk l
      exact .step ih ⟨k, _, rfl, h2, .inl h1⟩
    · obtain ⟨k, h1, h2⟩ := mk l
      exact .step ih ⟨k, _, rfl, h2, .inr h1⟩
/-- the doors join all the rooms -/
def Joined (n : Int) (ds : List Door) : Prop := n ≤ ds.length + 1 ∧ ∀ r, 0 ≤ r → r < n → Reach ds 0 r
section
variable {P : Program} {w : World} {K : PySem.W.Frag} {mg : Str → Option Value} {base : Heap}
theorem scHT : FnScope ["house", "cost_to", "_"] ["house"] (defScope (top 38)) := ⟨rfl, rfl, rfl, by decide +kernel, rfl, by decide +kernel, by decide +kernel⟩
def spHT (K : PySem.W.Frag) : Sp := fun vs H Q _ => ∃ (p : Addr) (n : Int) (g : List Nat) (ds : List Door), vs = [.ref p] ∧ HouseAt K H p n g ds ∧ 1 ≤ n ∧ n ≤ 1000 ∧ ds.length ≤ 1000 ∧ (∀ d ∈ ds, 0 ≤ d.1 ∧ d.1 < n ∧ 0 ≤ d.2.1 ∧ d.2.1 < n ∧ d.1 ≠ d.2.1) ∧
  ∀ (b : Bool) (H' : Hp), (b = true ↔ Joined n ds) → Same H H' → Q (.bl b) H'
theorem ok_ht (B : Blt mg) (D : Dfn K mg "hangs_together" (top 38)) (c_ways_from : Cal P w K mg base CX0 2 "ways_from" ["house", "costs", "rooms"] (spWay K)) : Cal P w K mg base CX0 3 "hangs_together" ["house"] (spHT K) := by
  have S' := scHT
  refine D.cal0 scHT (fun vs H Q E h => ?_) (fun _ _ _ _ _ _ us hl => match us, hl with | [_], _ => rfl) (fun f cdv A outer s H vs Q E hr h => ?_)
  · obtain ⟨p, n, g, ds, rfl, _⟩ := h
    rfl
  · obtain ⟨p, n, g, ds, rfl, ha, hn1, hn2, hds, hends, kQ⟩ := h
    obtain ⟨C, dx, t, refs, hc, h1, h2, h3⟩ := ha.ex
    refine ⟨_, (pss_cons (ps_if (pt_cmpR op_lt (pe_callB call_len_seq (by rfl) B.len PySem.boot_len (pa_cons (pe_fld (pv 0) rfl) pa_nil)) (pe_op op_sub (pe_fld (pv 0) rfl) pe_int) (nomark _)) (pss_one (ps_ret pe_bl)) pss_nil)
 (pss_cons (ps_asg (pcl c_ways_from hr (pa_cons (pv 0) (pa_cons (pe_op op_rep (pe_lst (pa_cons pe_int pa_nil)) (pe_callB call_len_seq (by rfl) B.len PySem.boot_len (pa_cons (pe_fld (pv 0) rfl) pa_nil))) (pa_cons (pe_lst (pa_cons pe_int pa_nil)) pa_nil)))) (pg_tup rfl (pgs_cons (pg_name (i := 1) S'.nd rfl (Or.inl rfl)) (pgs_cons (pg_name (i := 2) S'.nd rfl (Or.inl rfl)) pgs_nil))))
 (pss_one (ps_ret (pe_cmpR op_eq (pe_callB call_lenD (by rfl) B.len PySem.boot_len (pa_cons (pv 1) pa_nil)) (pe_fld (pv 0) rfl) (nomark _)))))), ?_⟩
    have hlen := h3.len
    refine ⟨_, rfl, p, C, dx, _, _, rfl, h1, hc.cl, hc.nD, rfl, t, refs, rfl, .inr (SqT.of h2), _, rfl, p, C, dx, _, _, rfl, h1, hc.cl, hc.nR, rfl, _, _, rfl, rfl, _, _, rfl, rfl, _, rfl, ite2 (fun e => ?_) (fun e => ?_)⟩
    · have e0 : (refs.length : Int) < n - 1 := of_decide_eq_true e
      exact kQ false H ⟨(fun z => by cases z), fun z => by have := z.1; omega⟩ (fun _ _ z => z)
    have e0 : ¬ (refs.length : Int) < n - 1 := fun z => e (decide_eq_true z)
    refine ⟨_, rfl, (by show 1 ≤ sizeLine; decide), fun l1 hl1 => ?_⟩
    refine ⟨_, rfl, p, C, dx, _, _, rfl, nk h1 hl1, hc.cl, hc.nD, rfl, t, refs, rfl, .inr (SqT.of (nk h2 hl1)), l1, _, _, rfl, rfl, upd_same, by omega, by omega, ?_, fun l2 hl2 => ⟨(by show 1 ≤ sizeLine; decide), fun l3 hl3 => ?_⟩⟩
    · show 1 * ((refs.length : Nat) : Int).toNat ≤ sizeLine
      exact Nat.le_of_lt (small1000 (by omega))
    have s1 : Same H (upd H l1 (.lst [.int 1])) := same_new hl1
    have s2 := same_upd (o := .lst (List.replicate ((refs.length : Nat) : Int).toNat [V.int 1]).flatten) s1 (s1.free hl2)
    have s3 := same_upd (o := .lst [.int 0]) s2 (s2.free hl3)
    have hcs : (List.replicate ((refs.length : Nat) : Int).toNat [V.int 1]).flatten = (List.replicate ds.length (some (1 : Int))).map cV := by
      rw [List.flatten_replicate_singleton, List.map_replicate, hlen]
      rfl
    have wx : WCtx n 1 ds (List.replicate ds.length (some 1)) [0] := ⟨by omega, by decide, hends, fun w hw => by
      have := (List.mem_replicate.mp hw).2
      cases this
      decide, fun r hr => by simp at hr; omega⟩
    refine ⟨p, l2, l3, n, 1, g, ds, List.replicate ds.length (some 1), [0], rfl, ha.same s3, hn2, hds, ?_, by simp, SqL.of upd_same, by simp, wx, ?_, fun H' tt D1 D2 srcs ls ms sm ht hD1 hD2 ne htt hd1 hd2 pm sr wi => ?_⟩
    · refine SqL.of ?_
      rw [← hcs]
      exact nk upd_same hl3
    · unfold wBound
      have a1 : n.toNat ≤ 1000 := by omega
      have a2 : (n * 1).toNat + 1 ≤ 1001 := by omega
      have a3 : n.toNat * ((n * 1).toNat + 1) ≤ 1000 * 1001 := Nat.mul_le_mul a1 a2
      exact Nat.lt_of_le_of_lt (by omega : _ ≤ 2003000) (by decide)
    · refine ⟨tt, _, rfl, SqT.of htt, rfl, _, _, rfl, _, _, rfl, rfl, ?_⟩
      have hp : H' p = some (.ins C dx (hflds n t g)) := sm _ _ (s3 _ _ h1)
      refine ⟨_, rfl, D1, _, rfl, hd1, _, rfl, p, C, dx, _, _, rfl, hp, hc.cl, hc.nR, rfl, rfl, kQ _ _ ?_ (s3.trans sm)⟩
      have hs0 : srcs = [0] := List.perm_singleton.mp pm
      subst hs0
      rw [List.length_map]
      have hn := wi.len wx
      have e2 : decide (V.int ls.length = V.int n) = true ↔ (ls.length : Int) = n := by
        rw [decide_eq_true_eq]
        exact ⟨fun z => V.int.inj z, fun z => by rw [z]⟩
      rw [e2]
      have key : ∀ x ∈ ls.map (·.1), 0 ≤ x ∧ x < n := fun x hx => by
        obtain ⟨q, hq, rfl⟩ := List.mem_map.mp hx
        have z := wi.rng q.1 q.2 (lk_mem wi.nd hq)
        exact ⟨z.1, z.2.1⟩
      constructor
      · intro z
        refine ⟨by omega, fun r r0 r1 => ?_⟩
        have hin : r ∈ ls.map (·.1) := by
          refine Decidable.byContradiction fun q => ?_
          have nd2 : (r :: ls.map (·.1)).Nodup := List.nodup_cons.mpr ⟨q, wi.nd⟩
          rcases nodup_len (n := n) nd2 (fun x hx => by
            rcases List.mem_cons.mp hx with rfl | hx
            · exact ⟨r0, r1⟩
            · exact key x hx) with e | e
          · simp at e
            omega
          · cases e
        obtain ⟨q, hq, rfl⟩ := List.mem_map.mp hin
        obtain ⟨s0, hs0, hrch⟩ := wi.rch q.1 q.2 (lk_mem wi.nd hq)
        rw [List.mem_singleton.mp hs0] at hrch
        exact reach_of hrch
      · rintro ⟨_, z⟩
        have sub : ∀ x ∈ (List.range n.toNat).map (fun i : Nat => (i : Int)), x ∈ ls.map (·.1) := fun x hx => by
          obtain ⟨i, hi, rfl⟩ := List.mem_map.mp hx
          have := List.mem_range.mp hi
          obtain ⟨v, hv⟩ := wi.all (s := 0) (by simp) (rchC_of (z i (by omega) (by omega)))
          exact List.mem_map.mpr ⟨_, lk_some hv, rfl⟩
        have ndr : ((List.range n.toNat).map (fun i : Nat => (i : Int))).Nodup := by
          refine List.pairwise_map.mpr (List.nodup_range.imp fun {a b} hab e => hab ?_)
          omega
        have := nd_sub ndr sub
        simp at this
        omega
end
end Lh
set_option Elab.async false
set_option linter.all false
set_option maxRecDepth 100000
set_option maxHeartbeats 8000000
namespace Lh
open PySem PySem.Spec PyProof.Rows L2 SX
theorem GuildOk.trades {g : List Nat} (h : GuildOk g) : TradesOk g := ⟨h.two, h.nd, fun c hc => by
  have := h.az c hc
  unfold isLet
  simp
  omega⟩
theorem GoodHouse.door {n : Int} {g : List Nat} {ds : List Door} (h : GoodHouse n g ds) {d : Door} (hd : d ∈ ds) : DoorOk n g d := by
  obtain ⟨a, b, c, e, f⟩ := h.ends d hd
  obtain ⟨⟨q1, q2⟩, _⟩ := h.cyc d hd
  exact ⟨a, b, c, e, f, fun x => ⟨q1 x, q2 x⟩⟩
section
variable {P : Program} {w : World} {K : PySem.W.Frag} {mg : Str → Option Value} {base : Heap}
theorem scCh : FnScope ["house", "door", "first", "second", "cycle"] ["house"] (defScope (top 34)) := ⟨rfl, rfl, rfl, by decide +kernel, rfl, by decide +kernel, by decide +kernel⟩
/-- a good house is not refused -/
def spCh (K : PySem.W.Frag) : Sp := fun vs H Q _ => ∃ (p : Addr) (n : Int) (g : List Nat) (ds : List Door), vs = [.ref p] ∧ HouseAt K H p n g ds ∧ GoodHouse n g ds ∧ GuildOk g ∧ ∀ H' : Hp, Same H H' → Q .non H'
theorem ok_ch (B : Blt mg) (D : Dfn K mg "check_house" (top 34)) (c_are_trades : Cal P w K mg base CX0 2 "are_trades" ["trades"] spTr) (c_is_door : Cal P w K mg base CX0 2 "is_door" ["house", "first", "second", "cycle"] (spDr K)) (c_hangs_together : Cal P w K mg base CX0 3 "hangs_together" ["house"] (spHT K)) : Cal P w K mg base CX0 4 "check_house" ["house"] (spCh K) := by
  have S' := scCh
  refine D.cal0 scCh (fun vs H Q E h => ?_) (fun _ _ _ _ _ _ us hl => match us, hl with | [_], _ => rfl) (fun f cdv A outer s H vs Q E hr h => ?_)
  · obtain ⟨p, n, g, ds, rfl, _⟩ := h
    rfl
  · obtain ⟨p, n, g, ds, rfl, ha, gh, gg, kQ⟩ := h
    obtain ⟨C, dx, t, refs, hc, h1, h2, h3⟩ := ha.ex
    have g5 := gg.five
    refine ⟨_, (pss_cons (ps_if (PW.pt (pw_or (pt_cmpR op_lt (pe_fld (pv 0) rfl) pe_int (nomark _)) (pw_or1 (pt_not (pt_val (pcl c_are_trades hr (pa_cons (pe_fld (pv 0) rfl) pa_nil))))))) (pss_one ps_never) pss_nil)
 (pss_cons (ps_for PassesOwn.never rfl (pi_enumT (by rfl) B.enumerate (pa_cons (pe_fld (pv 0) rfl) pa_nil)) (pg_tup rfl (pgs_cons (pg_name (i := 1) S'.nd rfl (Or.inl rfl)) (pgs_cons (pg_tup rfl (pgs_cons (pg_name (i := 2) S'.nd rfl (Or.inl rfl)) (pgs_cons (pg_name (i := 3) S'.nd rfl (Or.inl rfl)) (pgs_cons (pg_name (i := 4) S'.nd rfl (Or.inl rfl)) pgs_nil)))) pgs_nil)))
  (pss_one (ps_if (pt_not (pt_val (pcl c_is_door hr (pa_cons (pv 0) (pa_cons (pv 2) (pa_cons (pv 3) (pa_cons (pv 4) pa_nil))))))) (pss_one ps_never) pss_nil)))
 (pss_one (ps_if (pt_not (pt_val (pcl c_hangs_together hr (pa_cons (pv 0) pa_nil)))) (pss_one ps_never) pss_nil)))), ?_⟩
    refine ⟨_, rfl, p, C, dx, _, _, rfl, h1, hc.cl, hc.nR, rfl, _, _, rfl, rfl, _, rfl, ?_⟩
    have e1 : ¬ n < 1 := by have := gh.n1; omega
    rw [decide_eq_false e1]
    refine iteF ⟨_, rfl, p, C, dx, _, _, rfl, h1, hc.cl, hc.nT, rfl, g, rfl, by omega, fun b H1 hb s1 => ⟨_, rfl, ?_⟩⟩
    rw [hb.mpr gg.trades]
    refine iteF ?_
    refine ⟨_, rfl, p, C, dx, _, _, rfl, s1 _ _ h1, hc.cl, hc.nD, rfl, t, refs, rfl, SqT.of (s1 _ _ h2), for_it (walk_enumT (xs := refs)) (fun _ σ H' => (∃ v1 v2 v3 v4 : Option V, σ = [some (.ref p), v1, v2, v3, v4]) ∧ Same H H') ⟨⟨_, _, _, _, rfl⟩, s1⟩ ?_ ?_ ?_⟩
    · rintro i σ H2 hi ⟨_, s2⟩
      exact SqT.of (s2 _ _ h2)
    · rintro i v σ H2 H3 hi ⟨⟨v1, v2, v3, v4, rfl⟩, s2⟩ ⟨T, x, y, rfl, hT, rfl, ex, ey⟩
      cases ex
      obtain ⟨d, hd, hd2⟩ := h3.gtl ey
      obtain ⟨r, rfl, hr'⟩ := hd2
      have sT := same_upd (o := .tup [.int (i : Int), .ref r]) s2 (s2.free hT)
      have hm := List.mem_of_getElem? hd
      have hcl := (gh.cyc d hm).2
      refine ⟨T, _, rfl, SqT.of upd_same, rfl, _, _, rfl, _, _, rfl, r, _, rfl, SqT.of (sT _ _ hr'), rfl, _, _, rfl, _, _, rfl, _, _, rfl, rfl, rfl, ?_⟩
      refine ⟨_, rfl, _, rfl, _, rfl, _, rfl, p, n, g, ds, d, rfl, ha.same sT, by omega, by omega, fun b2 H4 hb2 s4 => ⟨_, rfl, ?_⟩⟩
      rw [hb2.mpr (gh.door hm)]
      exact iteF ⟨⟨_, _, _, _, rfl⟩, sT.trans s4⟩
    · rintro σ H2 ⟨⟨v1, v2, v3, v4, rfl⟩, s2⟩
      have hlen := gh.len
      have h16 := gh.n16
      refine ⟨_, rfl, p, n, g, ds, rfl, ha.same s2, gh.n1, by omega, by omega, gh.ends, fun b3 H5 hb3 s5 => ⟨_, rfl, ?_⟩⟩
      rw [hb3.mpr ⟨gh.many, gh.conn⟩]
      exact iteF (kQ _ (s2.trans s5))
end
end Lh
set_option Elab.async false
set_option linter.all false
set_option maxRecDepth 100000
set_option maxHeartbeats 8000000
namespace Lh
open PySem PySem.Spec PyProof.Rows L2 SX
/-- the class House, its __init__ -/
structure HouseDef (K : PySem.W.Frag) (mg : Str → Option Value) (C fI : Addr) (fd : FuncData) : Prop where
  hc : HCls K C
  maker : Mk K C fI
  mg : mg "House" = some (.ref C)
  fn : FunD K "__init__" "House.__init__" (defArgs (inClass (top 33) 0)) (defBody (inClass (top 33) 0)) (defScope (inClass (top 33) 0)) [] [("trades", .str (S [82, 66]))] fI fd
section
variable {P : Program} {w : World} {K : PySem.W.Frag} {mg : Str → Option Value} {base : Heap}
theorem scIn : FnScope ["self", "rooms", "doors", "trades", "first", "second", "cycle"] ["self", "rooms", "doors", "trades"] (defScope (inClass (top 33) 0)) := ⟨rfl, rfl, rfl, by decide +kernel, rfl, by decide +kernel, by decide +kernel⟩
def spIn (K : PySem.W.Frag) (C : Addr) : Sp := fun vs H Q _ => ∃ (p dx dl : Addr) (n : Int) (g : List Nat) (ds : List Door), vs = [.ref p, .int n, .ref dl, .str (S g)] ∧ H p = some (.ins C dx []) ∧ SrcDoors H dl ds ∧ GoodHouse n g ds ∧ GuildOk g ∧
  ∀ H' : Hp, (∀ b o, b ≠ p → H b = some o → H' b = some o) → HouseAt K H' p n g ds → Q .non H'
def InP (H1 : Hp) (D : Addr) (ds : List Door) (i : Nat) (H' : Hp) : Prop := ∃ rf : List V, Same H1 H' ∧ H' D = some (.lst rf) ∧ All2 (IsDoor H') rf (ds.take i)
theorem ok_in {C fI : Addr} {fd : FuncData} (B : Blt mg) (Hd : HouseDef K mg C fI fd) (c_check_house : Cal P w K mg base CX0 4 "check_house" ["house"] (spCh K)) : FnOk P w K mg base CX0 5 fI fd ["self", "rooms", "doors", "trades"] (spIn K C) := by
  have S' := scIn
  refine Hd.fn.ok scIn (fun vs H Q E h => ?_) (fun cdv A outer s H vs Q E hr h => ?_)
  · obtain ⟨p, dx, dl, n, g, ds, rfl, _⟩ := h
    rfl
  · obtain ⟨p, dx, dl, n, g, ds, rfl, hp, hsrc, gh, gg, kQ⟩ := h
    have hc := Hd.hc
    suffices hh : ∃ t, PSs (cxOf CX0 P w K mg base ["self", "rooms", "doors", "trades", "first", "second", "cycle"] "House.__init__" (defScope (inClass (top 33) 0)) fI cdv A outer s H E).nox (defBody (inClass (top 33) 0)) t ∧ t { nx := fun _ H' => Q .non H', rt := Q } (L2.start ["self", "rooms", "doors", "trades", "first", "second", "cycle"] [.ref p, .int n, .ref dl, .str (S g)]) H from by
      obtain ⟨t, h1, h2⟩ := hh
      exact ⟨t, h1.nox, h2⟩
    refine ⟨_, (pss_cons (ps_fld (pv 0) (pv 1) rfl)
 (pss_cons (ps_fld (pv 0) (pe_callTy call_tuple_of (by rfl) B.tuple (by decide +kernel) (pa_cons (pe_lc (own := [("first", 4), ("second", 5), ("cycle", 6)]) (g := gOr (gLst K 3 (gCons (gName 4) (gCons (gName 5) (gCons (gName 6) gNil)))) (gTup K 3 (gCons (gName 4) (gCons (gName 5) (gCons (gName 6) gNil))))) (by rfl) S'.nd (pi_or (pi_list (pv 2)) (pi_tup (pv 2))) (blkOk_by (N := ["self", "rooms", "doors", "trades", "first", "second", "cycle"]) (sc := defScope (inClass (top 33) 0)) (by decide +kernel)) (fun _ _ _ _ _ => (pg_or (pg_lst rfl (pgs_cons (pg_name (i := 4) S'.nd rfl (Or.inl rfl)) (pgs_cons (pg_name (i := 5) S'.nd rfl (Or.inl rfl)) (pgs_cons (pg_name (i := 6) S'.nd rfl (Or.inl rfl)) pgs_nil)))) (pg_tup rfl (pgs_cons (pg_name (i := 4) S'.nd rfl (Or.inl rfl)) (pgs_cons (pg_name (i := 5) S'.nd rfl (Or.inl rfl)) (pgs_cons (pg_name (i := 6) S'.nd rfl (Or.inl rfl)) pgs_nil)))))) (fun _ _ _ _ _ => pts_nil) (fun _ _ _ _ _ => (pe_tup (pa_cons (pv 4) (pa_cons (pv 5) (pa_cons (pv 6) pa_nil)))))) pa_nil)) rfl)
 (pss_cons (ps_fld (pv 0) (pv 3) rfl)
 (pss_one (ps_expr (pcl c_check_house hr (pa_cons (pv 0) pa_nil))))))), ?_⟩
    refine ⟨_, rfl, _, rfl, p, C, dx, [], rfl, hp, hc.cl, hc.nR, (by decide), ?_⟩
    obtain ⟨H1, eH1⟩ : ∃ H1, H1 = upd H p (.ins C dx (putF "rooms" (.int n) [])) := ⟨_, rfl⟩
    rw [← eH1]
    have sk : ∀ b o, b ≠ p → H b = some o → H1 b = some o := fun b o hb e => by rw [eH1, upd_ne hb]; exact e
    have hp1 : H1 p = some (.ins C dx [("rooms", .int n)]) := by rw [eH1, upd_same]; rfl
    have src1 : SrcDoors H1 dl ds := by
      obtain ⟨refs, h1, h2⟩ := hsrc
      refine ⟨refs, h1.elim (fun q => .inl (sk _ _ (fun z => by rw [z, hp] at q; cases q) q)) fun q => .inr (sk _ _ (fun z => by rw [z, hp] at q; cases q) q), h2.imp fun v d q => ?_⟩
      obtain ⟨r, e, q⟩ := q
      exact ⟨r, e, q.elim (fun q => .inl (sk _ _ (fun z => by rw [z, hp] at q; cases q) q)) fun q => .inr (sk _ _ (fun z => by rw [z, hp] at q; cases q) q)⟩
    obtain ⟨refs, hA, hB⟩ := src1
    rcases hA with hA | hA
    · refine .inl ⟨_, rfl, dl, rfl, ⟨_, SqL.of hA⟩, fun D hD => lc_it (walk_list (xs := refs)) (InP H1 D ds) ⟨[], same_new hD, upd_same, .nil⟩ ?_ ?_ ?_⟩
      · rintro i H' _ ⟨rf, sm, _, _⟩
        exact SqL.of (sm _ _ hA)
      · rintro i x H2 H3 hi ⟨rf, sm, hD', a2⟩ ⟨rfl, hx⟩
        obtain ⟨d, hd, r, rfl, hr'⟩ := hB.gtl hx
        obtain ⟨a, b, c⟩ := d
        have hlt := (List.getElem?_eq_some_iff.mp hd).1
        have hl2 := a2.len
        rw [List.length_take] at hl2
        have hlen24 := gh.len
        have fin : tTup (tCons (tVar 4) (tCons (tVar 5) (tCons (tVar 6) tNil))) [some (.ref p), some (.int n), some (.ref dl), some (.str (S g)), some (.int a), some (.int b), some (.str (S c))] H3 fun y H4 => ∃ acc, H4 D = some (.lst acc) ∧ acc.length < sizeLine ∧ InP H1 D ds (i + 1) (upd H4 D (.lst (acc ++ [y]))) := by
          refine ⟨_, rfl, _, rfl, _, rfl, (by show 3 ≤ sizeLine; decide), fun tp htp => ⟨rf, nk hD' htp, small1000 (by omega), rf ++ [.ref tp], same_upd (same_upd sm (sm.free htp)) hD, upd_same, ?_⟩⟩
          have k2 : ∀ xs, (upd H3 tp (.tup [.int a, .int b, .str (S c)])) D ≠ some (.tup xs) := fun xs z => by
            rw [nk hD' htp] at z
            cases z
          rw [List.take_add_one, hd]
          refine ((a2.imp fun v d q => q.same (same_new htp)).imp (IsDoor.keep k2)).app (.cons ⟨tp, rfl, ?_⟩ .nil)
          have : tp ≠ D := fun z => by rw [z, hD'] at htp; cases htp
          rw [upd_ne this, upd_same]
        rcases hr' with hr' | hr'
        · exact .inr ⟨r, _, rfl, SqT.of (sm _ _ hr'), rfl, _, _, rfl, _, _, rfl, _, _, rfl, rfl, rfl, fin⟩
        · exact .inl ⟨r, _, rfl, SqL.of (sm _ _ hr'), rfl, _, _, rfl, _, _, rfl, _, _, rfl, rfl, rfl, fin⟩
      · rintro H2 ⟨rf, sm, hD', a2⟩
        rw [hB.len, List.take_length] at a2
        refine ⟨D, rf, rfl, .inl ⟨SqL.of hD', fun t ht => ?_⟩⟩
        have hp2 : (upd H2 t (.tup rf)) p = some (.ins C dx [("rooms", .int n)]) := nk (sm _ _ hp1) ht
        refine ⟨_, rfl, p, C, dx, _, rfl, hp2, hc.cl, hc.nD, (by show 1 < 1000; decide), ?_⟩
        refine ⟨_, rfl, _, rfl, p, C, dx, _, rfl, upd_same, hc.cl, hc.nT, (by show 2 < 1000; decide), ?_⟩
        have hpt : p ≠ t := fun z => by rw [z, upd_same] at hp2; cases hp2
        obtain ⟨H5, eH5⟩ : ∃ H5, H5 = upd (upd (upd H2 t (.tup rf)) p (.ins C dx (putF "doors" (.ref t) [("rooms", .int n)]))) p (.ins C dx (putF "trades" (.str (S g)) (putF "doors" (.ref t) [("rooms", .int n)]))) := ⟨_, rfl⟩
        rw [← eH5]
        have hp5 : H5 p = some (.ins C dx (hflds n t g)) := by rw [eH5, upd_same]; rfl
        have ht5 : H5 t = some (.tup rf) := by rw [eH5, upd_ne hpt.symm, upd_ne hpt.symm, upd_same]
        have k5 : ∀ b o, b ≠ p → H2 b = some o → H5 b = some o := fun b o hb e => by
          rw [eH5, upd_ne hb, upd_ne hb]
          exact nk e ht
        have a5 : All2 (IsDoor H5) rf ds := a2.imp fun v d q => by
          obtain ⟨r, e, hr'⟩ := q
          exact ⟨r, e, k5 _ _ (fun z => by rw [z, sm _ _ hp1] at hr'; cases hr') hr'⟩
        have ha : HouseAt K H5 p n g ds := ⟨⟨C, dx, t, rf, hc, hp5, ht5, a5⟩⟩
        exact ⟨_, rfl, p, n, g, ds, rfl, ha, gh, gg, fun H' s' => kQ H' (fun b o hb e => s' _ _ (k5 b o hb (sm _ _ (sk b o hb e)))) (ha.same s')⟩
    · refine .inr ⟨_, rfl, dl, rfl, ⟨_, SqT.of hA⟩, fun D hD => lc_it (walk_tup (xs := refs)) (InP H1 D ds) ⟨[], same_new hD, upd_same, .nil⟩ ?_ ?_ ?_⟩
      · rintro i H' _ ⟨rf, sm, _, _⟩
        exact SqT.of (sm _ _ hA)
      · rintro i x H2 H3 hi ⟨rf, sm, hD', a2⟩ ⟨rfl, hx⟩
        obtain ⟨d, hd, r, rfl, hr'⟩ := hB.gtl hx
        obtain ⟨a, b, c⟩ := d
        have hlt := (List.getElem?_eq_some_iff.mp hd).1
        have hl2 := a2.len
        rw [List.length_take] at hl2
        have hlen24 := gh.len
        have fin : tTup (tCons (tVar 4) (tCons (tVar 5) (tCons (tVar 6) tNil))) [some (.ref p), some (.int n), some (.ref dl), some (.str (S g)), some (.int a), some (.int b), some (.str (S c))] H3 fun y H4 => ∃ acc, H4 D = some (.lst acc) ∧ acc.length < sizeLine ∧ InP H1 D ds (i + 1) (upd H4 D (.lst (acc ++ [y]))) := by
          refine ⟨_, rfl, _, rfl, _, rfl, (by show 3 ≤ sizeLine; decide), fun tp htp => ⟨rf, nk hD' htp, small1000 (by omega), rf ++ [.ref tp], same_upd (same_upd sm (sm.free htp)) hD, upd_same, ?_⟩⟩
          have k2 : ∀ xs, (upd H3 tp (.tup [.int a, .int b, .str (S c)])) D ≠ some (.tup xs) := fun xs z => by
            rw [nk hD' htp] at z
            cases z
          rw [List.take_add_one, hd]
          refine ((a2.imp fun v d q => q.same (same_new htp)).imp (IsDoor.keep k2)).app (.cons ⟨tp, rfl, ?_⟩ .nil)
          have : tp ≠ D := fun z => by rw [z, hD'] at htp; cases htp
          rw [upd_ne this, upd_same]
        rcases hr' with hr' | hr'
        · exact .inr ⟨r, _, rfl, SqT.of (sm _ _ hr'), rfl, _, _, rfl, _, _, rfl, _, _, rfl, rfl, rfl, fin⟩
        · exact .inl ⟨r, _, rfl, SqL.of (sm _ _ hr'), rfl, _, _, rfl, _, _, rfl, _, _, rfl, rfl, rfl, fin⟩
      · rintro H2 ⟨rf, sm, hD', a2⟩
        rw [hB.len, List.take_length] at a2
        refine ⟨D, rf, rfl, .inl ⟨SqL.of hD', fun t ht => ?_⟩⟩
        have hp2 : (upd H2 t (.tup rf)) p = some (.ins C dx [("rooms", .int n)]) := nk (sm _ _ hp1) ht
        refine ⟨_, rfl, p, C, dx, _, rfl, hp2, hc.cl, hc.nD, (by show 1 < 1000; decide), ?_⟩
        refine ⟨_, rfl, _, rfl, p, C, dx, _, rfl, upd_same, hc.cl, hc.nT, (by show 2 < 1000; decide), ?_⟩
        have hpt : p ≠ t := fun z => by rw [z, upd_same] at hp2; cases hp2
        obtain ⟨H5, eH5⟩ : ∃ H5, H5 = upd (upd (upd H2 t (.tup rf)) p (.ins C dx (putF "doors" (.ref t) [("rooms", .int n)]))) p (.ins C dx (putF "trades" (.str (S g)) (putF "doors" (.ref t) [("rooms", .int n)]))) := ⟨_, rfl⟩
        rw [← eH5]
        have hp5 : H5 p = some (.ins C dx (hflds n t g)) := by rw [eH5, upd_same]; rfl
        have ht5 : H5 t = some (.tup rf) := by rw [eH5, upd_ne hpt.symm, upd_ne hpt.symm, upd_same]
        have k5 : ∀ b o, b ≠ p → H2 b = some o → H5 b = some o := fun b o hb e => by
          rw [eH5, upd_ne hb, upd_ne hb]
          exact nk e ht
        have a5 : All2 (IsDoor H5) rf ds := a2.imp fun v d q => by
          obtain ⟨r, e, hr'⟩ := q
          exact ⟨r, e, k5 _ _ (fun z => by rw [z, sm _ _ hp1] at hr'; cases hr') hr'⟩
        have ha : HouseAt K H5 p n g ds := ⟨⟨C, dx, t, rf, hc, hp5, ht5, a5⟩⟩
        exact ⟨_, rfl, p, n, g, ds, rfl, ha, gh, gg, fun H' s' => kQ H' (fun b o hb e => s' _ _ (k5 b o hb (sm _ _ (sk b o hb e)))) (ha.same s')⟩
end
end Lh
set_option Elab.async false
set_option linter.all false
set_option maxRecDepth 100000
set_option maxHeartbeats 4000000
namespace Lh
open PySem PySem.Spec PyProof.Rows L2 SX
section
variable {K : PySem.W.Frag} {mg : Str → Option Value} {C fI : Addr} {fd : FuncData}
theorem mk_kbinds (Hd : HouseDef K mg C fI fd) : ∃ mv : List Value, KBn K fd ["self", "rooms", "doors", "trades"] 3 ["trades"] (fun us ws => us ++ ws) (fun vs zs => vs ++ zs) := by
  refine Hd.fn.kbinds0 3 ["trades"] [] (fun us _ ws => us ++ ws) (by simp) (by simp) (fun a _ b => a.append b) (fun D doc pm an cdv ct us mv ws h1 h2 h3 => ?_)
  match us, ws, h1, h3 with
  | [a, b, c], [d], _, _ => rfl
theorem mk_binds (Hd : HouseDef K mg C fI fd) : ∃ ds, Vals [.str (S [82, 66])] ds ∧ Binds K fd ["self", "rooms", "doors", "trades"] ds := by
  refine Hd.fn.binds0 3 (by simp) rfl (fun D doc pm an cdv ct us ks h1 h2 => ?_)
  match us, ks, h1, h2 with
  | [a, b, c], [d], _, _ => exact ⟨_, _, _, _, _, _, rfl, rfl, rfl⟩
end
section
variable {X : Cx} {K : PySem.W.Frag}
theorem call_list_ofK (h : X.K = K := by rfl) : CallR X (.type "list") (fun xs H Q => ∃ p ys, xs = [.ref p] ∧ (SqL K H p ys ∨ SqT K H p ys) ∧ ∀ l, H l = none → Q (.ref l) (upd H l (.lst ys))) := by subst h; exact call_list_of
end
/-- the law's second house -/
def ds3 : List Door := [(2, 0, [66, 66, 82]), (1, 2, [82, 66]), (1, 0, [82, 66, 66])]
theorem good3 : GoodHouse 3 [82, 66] ds3 := by
  refine ⟨by decide, by decide, by decide, by decide, by decide, ?_, fun r h0 h1 => ?_⟩
  · intro d hd
    simp only [ds3, List.mem_cons, List.not_mem_nil, or_false] at hd
    rcases hd with rfl | rfl | rfl <;> exact ⟨⟨by decide, by decide⟩, by decide⟩
  · have : r = 0 ∨ r = 1 ∨ r = 2 := by omega
    rcases this with rfl | rfl | rfl
    · exact .refl _
    · exact .step (c := [82, 66, 66]) (.refl 0) (.inr (by decide))
    · exact .step (c := [66, 66, 82]) (.refl 0) (.inr (by decide))
theorem kinds3 : kindsV 3 [82, 66] ds3 = [.bl false, .bl false, .bl false, .bl false, .bl false, .int 3] := by decide +kernel
theorem good3n : ∀ d ∈ ds3, d.2.2 ≠ [] := by decide
theorem cs3 : CycShort ds3 := ⟨by decide, by decide⟩
abbrev T1 : HO := .tup [.int 2, .int 0, .str (Str.ofString "BBR")]
abbrev T2 : HO := .tup [.int 1, .int 2, .str (Str.ofString "RB")]
abbrev T3 : HO := .tup [.int 1, .int 0, .str (Str.ofString "RBB")]
theorem three {H : Hp} {t1 t2 t3 dl : Addr} (h1 : H t1 = none) (h2 : upd H t1 T1 t2 = none) (h3 : upd (upd H t1 T1) t2 T2 t3 = none) (h4 : upd (upd (upd H t1 T1) t2 T2) t3 T3 dl = none) :
    Same H (upd (upd (upd (upd H t1 T1) t2 T2) t3 T3) dl (.lst [.ref t1, .ref t2, .ref t3])) ∧ All2 (IsDoor (upd (upd (upd (upd H t1 T1) t2 T2) t3 T3) dl (.lst [.ref t1, .ref t2, .ref t3]))) [.ref t1, .ref t2, .ref t3] ds3 := by
  have a1 : upd H t1 T1 t1 = some T1 := upd_same
  have b1 := nk (o := T2) a1 h2
  have b2 : upd (upd H t1 T1) t2 T2 t2 = some T2 := upd_same
  have c1 := nk (o := T3) b1 h3
  have c2 := nk (o := T3) b2 h3
  have c3 : upd (upd (upd H t1 T1) t2 T2) t3 T3 t3 = some T3 := upd_same
  have s1 : Same H (upd H t1 T1) := same_new h1
  have s2 := same_upd (o := T2) s1 (s1.free h2)
  have s3 := same_upd (o := T3) s2 (s2.free h3)
  have e1 : Str.ofString "BBR" = S [66, 66, 82] := by decide +kernel
  have e2 : Str.ofString "RB" = S [82, 66] := by decide +kernel
  have e3 : Str.ofString "RBB" = S [82, 66, 66] := by decide +kernel
  refine ⟨same_upd s3 (s3.free h4), .cons ⟨t1, rfl, ?_⟩ (.cons ⟨t2, rfl, ?_⟩ (.cons ⟨t3, rfl, ?_⟩ .nil))⟩
  · rw [nk c1 h4]
    show some (HO.tup [.int 2, .int 0, .str (Str.ofString "BBR")]) = _
    rw [e1]
  · rw [nk c2 h4]
    show some (HO.tup [.int 1, .int 2, .str (Str.ofString "RB")]) = _
    rw [e2]
  · rw [nk c3 h4]
    show some (HO.tup [.int 1, .int 0, .str (Str.ofString "RBB")]) = _
    rw [e3]
theorem tell_small {z : Int} (h0 : -1000000000 ≤ z) (h1 : z ≤ 1000000000) : Tell z := by
  unfold Tell
  by_cases e : z.natAbs = 0
  · rw [e]
    decide
  · have h30 : z.natAbs.log2 < 30 := (Nat.log2_lt e).mpr ?_
    · exact Nat.lt_of_lt_of_le h30 (by decide)
    have : (2 : Nat) ^ 30 = 1073741824 := by decide
    omega
theorem tell4 : ∀ z ∈ ([0, 1, 2, 3] : List Int), Tell z := by
  intro z hz
  simp at hz
  exact tell_small (by omega) (by omega)
theorem tell3 : ∀ z ∈ ([0, 2, 3] : List Int), Tell z := by
  intro z hz
  simp at hz
  exact tell_small (by omega) (by omega)
/-- the numbers that the law asks for -/
def zsOf (m : Int) : List Int := ([-2, -1] ++ (List.range (m - 0).toNat).map fun i => 0 + ((i : Nat) : Int)) ++ [-999999999, 999999999]
theorem zs_map (m : Int) : ([V.int (-2), V.int (-1)] ++ rgV 0 m) ++ [V.int (-999999999), V.int 999999999] = (zsOf m).map V.int := by
  unfold zsOf rgV
  simp
theorem zs_tell {m : Int} (h : m ≤ 100) : ∀ z ∈ zsOf m, Tell z := by
  intro z hz
  unfold zsOf at hz
  simp only [List.mem_append, List.mem_cons, List.not_mem_nil, or_false, List.mem_map, List.mem_range] at hz
  rcases hz with ((rfl | rfl) | ⟨i, hi, rfl⟩) | rfl | rfl
  · exact tell_small (by decide) (by decide)
  · exact tell_small (by decide) (by decide)
  · exact tell_small (by omega) (by omega)
  · exact tell_small (by decide) (by decide)
  · exact tell_small (by decide) (by decide)
end Lh
set_option Elab.async false
set_option linter.all false
set_option maxRecDepth 100000
set_option maxHeartbeats 16000000
namespace Lh
open PySem PySem.Spec PyProof.Rows L2 SX SkE
def LD (D : Addr) (H : Hp) (v : V) (d : Door) : Prop := ∃ r, v = .ref r ∧ r ≠ D ∧ H r = some (.lst [.int d.1, .int d.2.1, .str (S d.2.2)])
theorem LD.keep {D p : Addr} {H : Hp} {o o' : HO} (hp : H p = none) (v : V) (d : Door) (h : LD D H v d) : LD D (upd (upd H p o) D o') v d := by
  obtain ⟨r, e, hr, h⟩ := h
  exact ⟨r, e, hr, by rw [upd_ne hr, upd_ne (ne_of_none h hp)]; exact h⟩
theorem LD.src {D : Addr} {H : Hp} (v : V) (d : Door) (h : LD D H v d) : SrcDoor H v d := by
  obtain ⟨r, e, hr, h⟩ := h
  exact ⟨r, e, .inr h⟩
section
variable {P : Program} {w : World} {K : PySem.W.Frag} {mg : Str → Option Value} {base : Heap}
theorem scLaw : FnScope ["_law_script", "_law_row_here", "_law_rooms", "_law_doors", "_law_guild_here", "_law_rows", "_law_door", "_law_passed", "_law_house_here", "_law_due", "_law_other", "_law_spots", "_law_numbers", "_law_spot", "_law_k"] ["_law_script"] (defScope (top 71)) := ⟨rfl, rfl, rfl, by decide +kernel, rfl, by decide +kernel, by decide +kernel⟩
def spLaw (K : PySem.W.Frag) : Sp := fun vs H Q _ => ∃ (a : Addr) (ns : List Int), vs = [.ref a] ∧ SqL K H a (ns.map V.int) ∧ ∀ H' : Hp, Q (.bl true) H'
abbrev stL (a rw : Addr) (n : Int) (l : Addr) (g : List Nat) (x5 x7 x8 x9 x10 x11 x12 x13 x14 : Option V) : L2.St := [some (.ref a), some (.ref rw), some (.int n), some (.ref l), some (.str (S g)), x5, none, x7, x8, x9, x10, x11, x12, x13, x14]
theorem ok_law {C fI fL : Addr} {fd fdL : FuncData} (B : Blt mg) (FL : FunD K "law" "law" (defArgs (top 71)) (defBody (top 71)) (defScope (top 71)) [] [] fL fdL) (Hd : HouseDef K mg C fI fd) (Fi : FnOk P w K mg base CX0 5 fI fd ["self", "rooms", "doors", "trades"] (spIn K C))
    (c_law_cell : Cal P w K mg base CX0 1 "_law_cell" ["_law_script", "_law_k"] (spCell K)) (c_law_row : Cal P w K mg base CX0 1 "_law_row" ["_law_cell_here", "_law_sizes"] (spRow K)) (c_law_drawn : Cal P w K mg base CX0 3 "_law_drawn" ["_law_script", "_law_row_here"] (spDrawn K))
    (c_law_kinds : Cal P w K mg base CX0 1 "_law_kinds" ["_law_rooms", "_law_doors", "_law_guild_here"] spKi) (c_law_kinds_right : Cal P w K mg base CX0 3 "_law_kinds_right" ["_law_house_here", "_law_due"] (spKr K)) (c_law_doors_right : Cal P w K mg base CX0 5 "_law_doors_right" ["_law_house_here", "_law_rooms", "_law_doors", "_law_numbers"] (spDR K))
    (c_law_ends_right : Cal P w K mg base CX0 5 "_law_ends_right" ["_law_house_here", "_law_rooms", "_law_doors", "_law_numbers", "_law_spots"] (spER K)) (c_law_family : Cal P w K mg base CX0 4 "_law_family" ["_law_house_here", "_law_door", "_law_spot", "_law_alone"] (spFam K)) (c_law_is_integer : Cal P w K mg base CX0 1 "_law_is_integer" ["_law_actual"] spII) :
    FnOk P w K mg base CX0 7 fL fdL ["_law_script"] (spLaw K) := by
  have S' := scLaw
  obtain ⟨mv, kI⟩ := mk_kbinds Hd
  obtain ⟨dvs, vI, bI⟩ := mk_binds Hd
  refine FL.ok scLaw (fun vs H Q E h => ?_) (fun cdv A outer s H vs Q E hr h => ?_)
  · obtain ⟨a, ns, rfl, _⟩ := h
    rfl
  · obtain ⟨a, ns, rfl, hsc, kQ⟩ := h
    suffices hh : ∃ t, PSs (cxOf CX0 P w K mg base ["_law_script", "_law_row_here", "_law_rooms", "_law_doors", "_law_guild_here", "_law_rows", "_law_door", "_law_passed", "_law_house_here", "_law_due", "_law_other", "_law_spots", "_law_numbers", "_law_spot", "_law_k"] "law" (defScope (top 71)) fL cdv A outer s H E).nox (defBody (top 71)) t ∧ t { nx := fun _ H' => Q .non H', rt := Q } (L2.start ["_law_script", "_law_row_here", "_law_rooms", "_law_doors", "_law_guild_here", "_law_rows", "_law_door", "_law_passed", "_law_house_here", "_law_due", "_law_other", "_law_spots", "_law_numbers", "_law_spot", "_law_k"] [.ref a]) H from by
      obtain ⟨t, h1, h2⟩ := hh
      exact ⟨t, h1.nox, h2⟩
    refine ⟨_, (pss_cons (ps_set (i := 1) S'.nd rfl (Or.inl rfl) (pcl c_law_row hr (pa_cons (pcl c_law_cell hr (pa_cons (pv 0) (pa_cons pe_int pa_nil))) (pa_cons (pe_lst (pa_cons pe_int (pa_cons pe_int (pa_cons pe_int (pa_cons pe_int (pa_cons pe_int (pa_cons pe_int pa_nil))))))) pa_nil))))
 (pss_cons (ps_asg (pcl c_law_drawn hr (pa_cons (pv 0) (pa_cons (pv 1) pa_nil))) (pg_tup rfl (pgs_cons (pg_name (i := 2) S'.nd rfl (Or.inl rfl)) (pgs_cons (pg_name (i := 3) S'.nd rfl (Or.inl rfl)) (pgs_cons (pg_name (i := 4) S'.nd rfl (Or.inl rfl)) pgs_nil)))))
 (pss_cons (ps_set (i := 5) S'.nd rfl (Or.inl rfl) (pe_callTy call_list_of (by rfl) B.list (by decide +kernel) (pa_cons (pv 3) pa_nil)))
 (C8.pss_cut (ps_if (pt_cmpR op_eq (pe_op op_mod (pe_ix ix_list (pv 1) pe_int (fun _ _ => rfl)) pe_int) pe_int (nomark _)) (pss_one (ps_setLc (i := 5) (own := [("_law_door", 6)]) (g := gName 6) (by rfl) S'.nd rfl rfl (sw_true rfl rfl rfl (by decide +kernel)) (pi_list (pv 3)) (blkOk_by (N := ["_law_script", "_law_row_here", "_law_rooms", "_law_doors", "_law_guild_here", "_law_rows", "_law_door", "_law_passed", "_law_house_here", "_law_due", "_law_other", "_law_spots", "_law_numbers", "_law_spot", "_law_k"]) (sc := defScope (top 71)) (by decide +kernel)) (fun _ _ _ _ _ => (pg_name (i := 6) S'.nd rfl (Or.inl rfl))) (fun _ _ _ _ _ => pts_nil) (fun _ _ _ _ _ => (pe_callTy (call_list_ofK (K := K)) (by rfl) B.list (by decide +kernel) (pa_cons (pv 6) pa_nil))))) pss_nil)
 (pss_cons (ps_set (i := 7) S'.nd rfl (Or.inl rfl) (pv 5))
 (C8.pss_cut (ps_if (pt_cmpR op_ge (pe_ix ix_list (pv 1) pe_int (fun _ _ => rfl)) pe_int (nomark _)) (pss_one (ps_set (i := 7) S'.nd rfl (Or.inl rfl) (pe_callTy call_tuple_of (by rfl) B.tuple (by decide +kernel) (pa_cons (pv 5) pa_nil)))) pss_nil)
 (pss_cons (ps_set (i := 8) S'.nd rfl (Or.inl rfl) (pe_makeK Hd.maker Fi hr (by rfl) Hd.mg kI pass0 (pa_cons (pv 2) (pa_cons (pv 7) pa_nil)) (pk_cons (pv 4) pk_nil)))
 (pss_cons (ps_set (i := 9) S'.nd rfl (Or.inl rfl) (pcl c_law_kinds hr (pa_cons (pv 2) (pa_cons (pv 3) (pa_cons (pv 4) pa_nil)))))
 (pss_cons (ps_if (pt_not (pt_val (pcl c_law_kinds_right hr (pa_cons (pv 8) (pa_cons (pv 9) pa_nil))))) (pss_one (ps_ret pe_bl)) pss_nil)
 (pss_cons (ps_set (i := 10) S'.nd rfl (Or.inl rfl) (pe_make Hd.maker Fi hr (by rfl) Hd.mg bI vI pass0 (pa_cons pe_int (pa_cons (pe_lst (pa_cons (pe_tup (pa_cons pe_int (pa_cons pe_int (pa_cons pe_str pa_nil)))) (pa_cons (pe_tup (pa_cons pe_int (pa_cons pe_int (pa_cons pe_str pa_nil)))) (pa_cons (pe_tup (pa_cons pe_int (pa_cons pe_int (pa_cons pe_str pa_nil)))) pa_nil)))) pa_nil))))
 (pss_cons (ps_if (pt_not (pt_val (pcl c_law_kinds_right hr (pa_cons (pv 10) (pa_cons (pe_lst (pa_cons pe_bl (pa_cons pe_bl (pa_cons pe_bl (pa_cons pe_bl (pa_cons pe_bl (pa_cons pe_int pa_nil))))))) pa_nil))))) (pss_one (ps_ret pe_bl)) pss_nil)
 (pss_cons (ps_if (pt_not (pt_val (pcl c_law_ends_right hr (pa_cons (pv 10) (pa_cons pe_int (pa_cons (pe_lst (pa_cons (pe_tup (pa_cons pe_int (pa_cons pe_int (pa_cons pe_str pa_nil)))) (pa_cons (pe_tup (pa_cons pe_int (pa_cons pe_int (pa_cons pe_str pa_nil)))) (pa_cons (pe_tup (pa_cons pe_int (pa_cons pe_int (pa_cons pe_str pa_nil)))) pa_nil)))) (pa_cons (pe_lst (pa_cons pe_int (pa_cons pe_int (pa_cons pe_int pa_nil)))) (pa_cons (pe_lst (pa_cons pe_int (pa_cons pe_int (pa_cons pe_int (pa_cons pe_int pa_nil))))) pa_nil)))))))) (pss_one (ps_ret pe_bl)) pss_nil)
 (pss_cons (ps_set (i := 11) S'.nd rfl (Or.inl rfl) (pe_op op_cat (pe_op op_cat (pe_lst (pa_cons (pe_un un_neg pe_int) (pa_cons (pe_un un_neg pe_int) pa_nil))) (pe_listRg rfl (by rfl) B.list (prg_1 (by rfl) B.range (pe_op op_add (pv 2) pe_int)))) (pe_lst (pa_cons (pe_un un_neg pe_int) (pa_cons pe_int pa_nil)))))
 (pss_cons (ps_set (i := 12) S'.nd rfl (Or.inl rfl) (pe_op op_cat (pe_op op_cat (pe_lst (pa_cons (pe_un un_neg pe_int) (pa_cons (pe_un un_neg pe_int) pa_nil))) (pe_listRg rfl (by rfl) B.list (prg_1 (by rfl) B.range (pe_op op_add (pe_callB call_len_seq (by rfl) B.len PySem.boot_len (pa_cons (pv 3) pa_nil)) pe_int)))) (pe_lst (pa_cons (pe_un un_neg pe_int) (pa_cons pe_int pa_nil)))))
 (pss_cons (ps_if (PW.pt (pw_or (pt_not (pt_val (pcl c_law_doors_right hr (pa_cons (pv 8) (pa_cons (pv 2) (pa_cons (pv 3) (pa_cons (pv 11) pa_nil))))))) (pw_or1 (pt_not (pt_val (pcl c_law_ends_right hr (pa_cons (pv 8) (pa_cons (pv 2) (pa_cons (pv 3) (pa_cons (pv 12) (pa_cons (pv 11) pa_nil))))))))))) (pss_one (ps_ret pe_bl)) pss_nil)
 (pss_cons (ps_if (PW.pt (pw_or (pt_cmpR op_ne (pcl c_law_family hr (pa_cons (pv 8) (pa_cons (pe_callB call_len_seq (by rfl) B.len PySem.boot_len (pa_cons (pv 3) pa_nil)) (pa_cons pe_int (pa_cons pe_bl pa_nil))))) pe_int (nomark _)) (pw_or1 (pt_cmpR op_ne (pcl c_law_family hr (pa_cons (pv 8) (pa_cons pe_int (pa_cons (pv 2) (pa_cons pe_bl pa_nil))))) pe_int (nomark _))))) (pss_one (ps_ret pe_bl)) pss_nil)
 (pss_cons (ps_for PassesOwn.never rfl (pi_range1 rfl B.range (pa_cons (pv 2) pa_nil)) (pg_name (i := 13) S'.nd rfl (Or.inl rfl))
  (pss_one (ps_if (PW.pt (pw_and (pt_cmpR op_gt (pe_callB call_len_seq (by rfl) B.len PySem.boot_len (pa_cons (pv 3) pa_nil)) pe_int (nomark _)) (pw_and (pt_cmpR op_ne (pv 13) (pe_ix ix_tup (pe_ix ix_list (pv 3) pe_int (fun _ _ => rfl)) pe_int (fun _ _ => rfl)) (nomark _)) (pw_and1 (pt_cmpR op_ne (pv 13) (pe_ix ix_tup (pe_ix ix_list (pv 3) pe_int (fun _ _ => rfl)) pe_int (fun _ _ => rfl)) (nomark _)))))) (pss_one (ps_if (pt_cmpR op_ne (pcl c_law_family hr (pa_cons (pv 8) (pa_cons pe_int (pa_cons (pv 13) (pa_cons pe_bl pa_nil))))) pe_int (nomark _)) (pss_one (ps_ret pe_bl)) pss_nil)) pss_nil)))
 (pss_cons (ps_if (pt_not (pt_val (pcl c_law_kinds_right hr (pa_cons (pv 8) (pa_cons (pv 9) pa_nil))))) (pss_one (ps_ret pe_bl)) pss_nil)
 (pss_cons (ps_if (PW.pt (pw_or (pt_not (pt_val (pe_callB call_isi (by rfl) B.isinstance (by decide +kernel) (pa_cons (pe_fld (pv 8) rfl) (pa_cons (pe_bltn (v := .ty "tuple") (u := .type "tuple") (by rfl) B.tuple (by decide +kernel) rfl) pa_nil))))) (pw_or (pt_cmpR op_ne (pe_callB call_len_seq (by rfl) B.len PySem.boot_len (pa_cons (pe_fld (pv 8) rfl) pa_nil)) (pe_callB call_len_seq (by rfl) B.len PySem.boot_len (pa_cons (pv 3) pa_nil)) (nomark _)) (pw_or1 (pt_cmpR op_ne (pe_callB call_len_seq (by rfl) B.len PySem.boot_len (pa_cons (pv 5) pa_nil)) (pe_callB call_len_seq (by rfl) B.len PySem.boot_len (pa_cons (pv 3) pa_nil)) (nomark _)))))) (pss_one (ps_ret pe_bl)) pss_nil)
 (pss_cons (ps_for PassesOwn.never rfl (pi_range1 rfl B.range (pa_cons (pe_callB call_len_seq (by rfl) B.len PySem.boot_len (pa_cons (pv 3) pa_nil)) pa_nil)) (pg_name (i := 14) S'.nd rfl (Or.inl rfl))
  (pss_one (ps_if (PW.pt (pw_or (pt_cmpR (op_neD hr.units) (pe_callTy call_tuple_of (by rfl) B.tuple (by decide +kernel) (pa_cons (pe_ix ix_tup (pe_fld (pv 8) rfl) (pv 14) (fun _ _ => rfl)) pa_nil)) (pe_ix ix_list (pv 3) (pv 14) (fun _ _ => rfl)) (nomark _)) (pw_or1 (pt_cmpR (op_neD hr.units) (pe_callTy call_tuple_of (by rfl) B.tuple (by decide +kernel) (pa_cons (pe_ix ix_list (pv 5) (pv 14) (fun _ _ => rfl)) pa_nil)) (pe_ix ix_list (pv 3) (pv 14) (fun _ _ => rfl)) (nomark _))))) (pss_one (ps_ret pe_bl)) pss_nil)))
 (pss_one (ps_ret (pe_and (pcl c_law_is_integer hr (pa_cons (pe_fld (pv 8) rfl) pa_nil)) (pe_and (pe_cmpR op_eq (pe_fld (pv 8) rfl) (pv 2) (nomark _)) (pe_one (pe_cmpR op_eq (pe_fld (pv 8) rfl) (pv 4) (nomark _))))))))))))))))))))))))))), ?_⟩
    refine ⟨_, rfl, a, ns, 5, rfl, hsc, fun c5 => ⟨(by show 6 ≤ sizeLine; decide), fun b hb => ⟨c5, b, [8, 3, 6, 60, 60, 4], rfl, SqL.of upd_same, by decide, by decide, fun row H1 rw rok s1 hrw0 hrw => ?_⟩⟩⟩
    have sA : Same H H1 := (same_new hb).trans s1
    obtain ⟨y5, ey5, b5, b5'⟩ := rok.get (j := 5) (n := 4) rfl
    refine ⟨_, rfl, _, rfl, a, rw, ns, row, rfl, sA.seq hsc, hrw, rok, fun n g ds H2 t l refs G gok one s2 ht0 hl0 ht hl a2 => ?_⟩
    have sB := sA.trans s2
    have hrw2 := s2 _ _ hrw
    clear sA s1 s2 hrw hrw0 hb
    refine ⟨t, _, rfl, SqT.of ht, rfl, _, _, rfl, _, _, rfl, _, _, rfl, rfl, ?_⟩
    have g2 := gok.two
    have g5 := gok.five
    have dlen := G.len
    have n1 := G.n1
    have n16 := G.n16
    have cs : CycShort ds := ⟨by omega, fun d hd => by have := (G.cyc d hd).2; omega⟩
    have hne : ∀ d ∈ ds, d.2.2 ≠ [] := fun d hd e => by
      have h := (G.cyc d hd).1
      obtain ⟨x, hx⟩ : ∃ x, x ∈ g := List.exists_mem_of_length_pos (by omega)
      have := h.2 x hx
      rw [e] at this
      cases this
    -- rows
    refine ⟨_, rfl, l, _, rfl, .inl (SqL.of hl), fun r1 hr1 => ?_⟩
    have s3 : Same H2 (upd H2 r1 (.lst refs)) := same_new hr1
    have hr1' : upd H2 r1 (.lst refs) r1 = some (.lst refs) := upd_same
    generalize upd H2 r1 (.lst refs) = H3 at s3 hr1' ⊢
    refine ⟨fun σ H' => ∃ (rl : Addr) (rr : List V), σ = stL a rw n l g (some (.ref rl)) none none none none none none none none ∧ Same H2 H' ∧ H' rl = some (.lst rr) ∧ All2 (SrcDoor H') rr ds, ?_, ?_⟩
    · refine ⟨_, rfl, rw, _, _, _, rfl, rfl, SqL.of (s3 _ _ hrw2), at_of (j := 5) rfl (map_get ey5), _, _, rfl, rfl, (by show (0 : Int) < 2; decide), rfl, _, rfl, ite2 (fun _ => ?_) (fun _ => ⟨r1, refs, rfl, s3, hr1', (a2.imp fun v d q => q.same s3).imp IsDoor.src⟩)⟩
      refine ⟨_, rfl, l, rfl, ⟨_, SqL.of (s3 _ _ hl)⟩, fun D hD => lc_it (walk_list (xs := refs)) (fun i H' => ∃ rr : List V, Same H3 H' ∧ H' D = some (.lst rr) ∧ All2 (LD D H') rr (ds.take i)) ⟨[], same_new hD, upd_same, .nil⟩ ?_ ?_ ?_⟩
      · rintro i H' _ ⟨rr, sm, _, _⟩
        exact SqL.of (sm _ _ (s3 _ _ hl))
      · rintro i x H4 H5 hi ⟨rr, sm, hD', b2⟩ ⟨rfl, hx⟩
        obtain ⟨d, hd, q, rfl, hq⟩ := a2.gtl hx
        have hq4 := sm _ _ (s3 _ _ hq)
        have hrr := b2.len
        rw [List.length_take] at hrr
        refine ⟨rfl, _, rfl, q, _, rfl, .inr (SqT.of hq4), fun p hp => ⟨rr, nk hD' hp, small1000 (by omega), rr ++ [.ref p], same_upd (same_upd sm (sm.free hp)) hD, upd_same, ?_⟩⟩
        rw [List.take_add_one, hd]
        refine (b2.imp (LD.keep hp)).app (.cons ⟨p, rfl, fun z => ?_, ?_⟩ .nil)
        · rw [z, hD'] at hp
          cases hp
        · rw [upd_ne (fun z => by rw [z, hD'] at hp; cases hp), upd_same]
      · rintro H4 ⟨rr, sm, hD', b2⟩
        rw [a2.len, List.take_length] at b2
        exact ⟨D, rr, rfl, s3.trans sm, hD', b2.imp LD.src⟩
    rintro σ H4 ⟨rl, rr, rfl, s4, hrl, b2⟩
    have sC := sB.trans s4
    refine ⟨_, rfl, ?_⟩
    refine ⟨fun σ H' => ∃ (pl : Addr), σ = stL a rw n l g (some (.ref rl)) (some (.ref pl)) none none none none none none none ∧ Same H4 H' ∧ SrcDoors H' pl ds, ?_, ?_⟩
    · refine ⟨_, rfl, rw, _, _, _, rfl, rfl, SqL.of (s4 _ _ hrw2), at_of (j := 5) rfl (map_get ey5), _, _, rfl, rfl, _, rfl, ite2 (fun _ => ?_) (fun _ => ⟨rl, rfl, fun _ _ e => e, rr, .inl hrl, b2⟩)⟩
      refine ⟨_, rfl, rl, _, rfl, .inl ⟨SqL.of hrl, fun pt hpt => ⟨pt, rfl, same_new hpt, rr, .inr upd_same, b2.imp fun v d q => q.same (same_new hpt)⟩⟩⟩
    rintro σ H5 ⟨pl, rfl, s5, src⟩
    have sD := sC.trans s5
    -- the house
    refine ⟨_, rfl, _, rfl, _, rfl, rfl, rfl, fun hx dx hhx hdx hne2 => ⟨hx, dx, pl, n, g, ds, rfl, upd_same, ?_, G, gok, fun H6 kp ha => ⟨rfl, ?_⟩⟩⟩
    · have q1 : Same H5 (upd (upd H5 dx (.own hx)) hx (.ins C dx [])) := same_upd (same_new hdx) hhx
      exact src.same q1
    have s6 : Same H5 H6 := fun b o e => kp b o (ne_of_none e hhx) (by rw [upd_ne (ne_of_none e hhx), upd_ne (ne_of_none e hdx)]; exact e)
    clear kp
    have sE := sD.trans s6
    have t46 := s5.trans s6
    have t26 := s4.trans t46
    refine ⟨_, rfl, _, rfl, _, rfl, n, l, refs, g, ds, rfl, t26 _ _ hl, a2.imp (fun v d q => q.same t26), cs, fun H7 kr s7 hkr0 hkr => ?_⟩
    have t47 := t46.trans s7
    have t27 := t26.trans s7
    have ha := ha.same s7
    refine ⟨_, rfl, _, rfl, hx, kr, n, g, ds, rfl, ha, cs, hne, by omega, hkr, fun H8 s8 => ⟨true, rfl, iteF ?_⟩⟩
    have t28 := t27.trans s8
    have t68 := s8
    -- the other house
    refine ⟨(by show 3 ≤ sizeLine; decide), fun t1 h1 => ⟨(by show 3 ≤ sizeLine; decide), fun t2 h2 => ⟨(by show 3 ≤ sizeLine; decide), fun t3 h3 => ⟨(by show 3 ≤ sizeLine; decide), fun dl hdl => ?_⟩⟩⟩⟩
    obtain ⟨q1, q2⟩ := three h1 h2 h3 hdl
    have q3 : upd (upd (upd (upd H8 t1 T1) t2 T2) t3 T3) dl (.lst [.ref t1, .ref t2, .ref t3]) dl = some (.lst [.ref t1, .ref t2, .ref t3]) := upd_same
    intro ox odx hox hodx one2
    have r1' : Same (upd (upd (upd (upd H8 t1 T1) t2 T2) t3 T3) dl (.lst [.ref t1, .ref t2, .ref t3])) (upd (upd (upd (upd (upd (upd H8 t1 T1) t2 T2) t3 T3) dl (.lst [.ref t1, .ref t2, .ref t3])) odx (.own ox)) ox (.ins C odx [])) := same_upd (same_new hodx) hox
    have r2' : SrcDoors (upd (upd (upd (upd (upd (upd H8 t1 T1) t2 T2) t3 T3) dl (.lst [.ref t1, .ref t2, .ref t3])) odx (.own ox)) ox (.ins C odx [])) dl ds3 := SrcDoors.same r1' ⟨_, .inl q3, q2.imp IsDoor.src⟩
    refine ⟨ox, odx, dl, 3, [82, 66], ds3, rfl, upd_same, r2', good3, guildRB, fun H9 kp ha3 => ⟨rfl, ?_⟩⟩
    have s9 : Same H8 H9 := fun b o e => by
      have e2 := r1' _ _ (q1 _ _ e)
      exact kp b o (fun z => by rw [z] at e; have := q1 _ _ e; rw [hox] at this; cases this) e2
    clear kp r1' r2' q1 q2 q3 hox hodx one2
    have t29 := t28.trans s9
    have t69 := t68.trans s9
    refine ⟨_, rfl, (by show 6 ≤ sizeLine; decide), fun kb hkb => ⟨ox, kb, 3, [82, 66], ds3, rfl, ha3.same (same_new hkb), cs3, good3n, by decide, by rw [upd_same, kinds3], fun H10 s10' => ⟨true, rfl, iteF ?_⟩⟩⟩
    have s10 := (same_new hkb).trans s10'
    clear s10'
    have t2a := t29.trans s10
    have t6a := t69.trans s10
    refine ⟨_, rfl, (by show 3 ≤ sizeLine; decide), fun u1 g1 => ⟨(by show 3 ≤ sizeLine; decide), fun u2 g2' => ⟨(by show 3 ≤ sizeLine; decide), fun u3 g3 => ⟨(by show 3 ≤ sizeLine; decide), fun el hel => ?_⟩⟩⟩⟩
    obtain ⟨q1, q2⟩ := three g1 g2' g3 hel
    refine ⟨(by show 3 ≤ sizeLine; decide), fun nl hnl => ⟨(by show 4 ≤ sizeLine; decide), fun sl hsl => ?_⟩⟩
    have q4 := same_upd (o := .lst [.int 0, .int 2, .int 3]) q1 (q1.free hnl)
    have q5 := same_upd (o := .lst [.int 0, .int 1, .int 2, .int 3]) q4 (q4.free hsl)
    have v1 : Same (upd (upd (upd (upd H10 u1 T1) u2 T2) u3 T3) el (.lst [.ref u1, .ref u2, .ref u3])) _ := same_upd (o := .lst [.int 0, .int 1, .int 2, .int 3]) (same_new (o := .lst [.int 0, .int 2, .int 3]) hnl) ((same_new (o := .lst [.int 0, .int 2, .int 3]) hnl).free hsl)
    refine ⟨ox, el, nl, sl, 3, [82, 66], ds3, _, [0, 2, 3], [0, 1, 2, 3], rfl, ha3.same (s10.trans q5), v1 _ _ upd_same, q2.imp (fun v d q => q.same v1), nk upd_same hsl, upd_same, tell3, tell4, fun H11 s11' => ⟨true, rfl, iteF ?_⟩⟩
    have s11 := q5.trans s11'
    clear v1 q1 q2 q4 q5 s11' g1 g2' g3 hel hnl hsl h1 h2 h3 hdl
    have t2b := t2a.trans s11
    have t6b := t6a.trans s11
    refine ⟨_, rfl, _, rfl, (by show 2 ≤ sizeLine; decide), fun p1 hp1 => ?_⟩
    refine ⟨_, rfl, _, _, rfl, rfl, _, rfl, .of_le (by decide) (by omega) (by decide) (by omega), fun p2 hp2 => ⟨p1, p2, _, _, rfl, rfl, nk upd_same hp2, upd_same, ?_, fun p3 hp3 => ?_⟩⟩
    · rw [rgV_length]
      show 2 + _ ≤ sizeLine
      exact Nat.le_of_lt (small1000 (by omega))
    refine ⟨_, rfl, (by show 2 ≤ sizeLine; decide), fun p4 hp4 => ⟨p3, p4, _, _, rfl, rfl, nk upd_same hp4, upd_same, ?_, fun sp hsp => ?_⟩⟩
    · rw [List.length_append, rgV_length]
      show 2 + _ + 2 ≤ sizeLine
      exact Nat.le_of_lt (small1000 (by omega))
    have z1 := same_new (o := .lst [V.int (-2), V.int (-1)]) hp1
    have z2 := same_upd (o := .lst (rgV 0 (n + 2))) z1 (z1.free hp2)
    have z3 := same_upd (o := .lst ([V.int (-2), V.int (-1)] ++ rgV 0 (n + 2))) z2 (z2.free hp3)
    have z4 := same_upd (o := .lst [V.int (-999999999), V.int 999999999]) z3 (z3.free hp4)
    have ssp := same_upd (o := (.lst ([V.int (-2), V.int (-1)] ++ rgV 0 (n + 2) ++ [V.int (-999999999), V.int 999999999]))) z4 (z4.free hsp)
    have ksp : (upd (upd (upd (upd (upd H11 p1 (.lst [V.int (-2), V.int (-1)])) p2 (.lst (rgV 0 (n + 2)))) p3 (.lst ([V.int (-2), V.int (-1)] ++ rgV 0 (n + 2)))) p4 (.lst [V.int (-999999999), V.int 999999999])) sp (.lst ([V.int (-2), V.int (-1)] ++ rgV 0 (n + 2) ++ [V.int (-999999999), V.int 999999999]))) sp = some (.lst ((zsOf (n + 2)).map V.int)) := by rw [upd_same, zs_map]
    clear z1 z2 z3 z4
    have hrn := a2.len
    have t2c := t2b.trans ssp
    have t6c := t6b.trans ssp
    refine ⟨_, rfl, _, rfl, (by show 2 ≤ sizeLine; decide), fun w1 hw1 => ?_⟩
    refine ⟨_, rfl, l, _, rfl, .inl (SqL.of ((same_new hw1) _ _ (t2c _ _ hl))), _, _, rfl, rfl, _, rfl, .of_le (by decide) (by omega) (by decide) (by omega), fun w2 hw2 => ⟨w1, w2, _, _, rfl, rfl, nk upd_same hw2, upd_same, ?_, fun w3 hw3 => ?_⟩⟩
    · rw [rgV_length]
      show 2 + _ ≤ sizeLine
      exact Nat.le_of_lt (small1000 (by omega))
    refine ⟨_, rfl, (by show 2 ≤ sizeLine; decide), fun w4 hw4 => ⟨w3, w4, _, _, rfl, rfl, nk upd_same hw4, upd_same, ?_, fun nm hnm => ?_⟩⟩
    · rw [List.length_append, rgV_length]
      show 2 + _ + 2 ≤ sizeLine
      exact Nat.le_of_lt (small1000 (by omega))
    have z1 := same_new (o := .lst [V.int (-2), V.int (-1)]) hw1
    have z2 := same_upd (o := .lst (rgV 0 ((refs.length : Int) + 2))) z1 (z1.free hw2)
    have z3 := same_upd (o := .lst ([V.int (-2), V.int (-1)] ++ rgV 0 ((refs.length : Int) + 2))) z2 (z2.free hw3)
    have z4 := same_upd (o := .lst [V.int (-999999999), V.int 999999999]) z3 (z3.free hw4)
    have snm := same_upd (o := (.lst ([V.int (-2), V.int (-1)] ++ rgV 0 ((refs.length : Int) + 2) ++ [V.int (-999999999), V.int 999999999]))) z4 (z4.free hnm)
    clear z1 z2 z3 z4
    have t2d := t2c.trans snm
    have t6d := t6c.trans snm
    refine ⟨_, rfl, _, rfl, _, rfl, _, rfl, hx, l, sp, n, g, ds, refs, zsOf (n + 2), rfl, ha.same t6d, by omega, t2d _ _ hl, a2.imp (fun v d q => q.same t2d), snm _ _ ksp, zs_tell (by omega), fun H13 s13 => ⟨true, rfl, iteF ?_⟩⟩
    have knm := s13 _ _ (show _ = some (.lst ((zsOf ((refs.length : Int) + 2)).map V.int)) from by rw [upd_same, zs_map])
    have ksp' := s13 _ _ (snm _ _ ksp)
    have t2e := t2d.trans s13
    have t6e := t6d.trans s13
    refine ⟨_, rfl, _, rfl, _, rfl, _, rfl, _, rfl, hx, l, nm, sp, n, g, ds, refs, zsOf ((refs.length : Int) + 2), zsOf (n + 2), rfl, ha.same t6e, t2e _ _ hl, a2.imp (fun v d q => q.same t2e), knm, ksp', zs_tell (by omega), zs_tell (by omega), fun H14 s14 => ⟨true, rfl, iteF ?_⟩⟩
    have t2f := t2e.trans s14
    have t6f := t6e.trans s14
    clear knm ksp' ksp snm ssp s13 t2d t6d t2c t6c t2b t6b hp1 hp2 hp3 hp4 hw1 hw2 hw3 hw4 hsp hnm
    have tn : Tell n := tell_small (by omega) (by omega)
    have td : Tell (refs.length : Int) := tell_small (by omega) (by omega)
    have t0 : Tell 0 := tell_small (by decide) (by decide)
    refine ⟨_, rfl, _, rfl, l, _, rfl, .inl (SqL.of (t2f _ _ hl)), hx, n, g, ds, (refs.length : Int), 0, false, rfl, ha.same t6f, td, t0, by omega, .inr (.inl ⟨rfl, fun z => by omega, fun H15 s15 => ⟨rfl, _, rfl, ite2 (fun e => absurd e (by simp)) (fun _ => ?_)⟩⟩)⟩
    have t2g := t2f.trans s15
    have t6g := t6f.trans s15
    refine ⟨_, rfl, _, rfl, hx, n, g, ds, 0, n, false, rfl, ha.same t6g, t0, tn, by omega, .inr (.inl ⟨rfl, fun z => by omega, fun H16 s16 => ⟨rfl, _, rfl, ite2 (fun e => absurd e (by simp)) (fun _ => ?_)⟩⟩)⟩
    have t2h := t2g.trans s16
    have t6h := t6g.trans s16
    refine ⟨_, rfl, _, rfl, by omega, by omega, for_range (lo := 0) (n := _) (fun i σ H' => (∃ x13 : Option V, σ = stL a rw n l g (some (.ref rl)) (some (.ref pl)) (some (.ref hx)) (some (.ref kr)) (some (.ref ox)) (some (.ref sp)) (some (.ref nm)) x13 none) ∧ Same H16 H') ⟨⟨none, rfl⟩, fun _ _ e => e⟩ ?_ ?_⟩
    · rintro i σ H17 hi ⟨⟨x13, rfl⟩, s17⟩
      have t2i := t2h.trans s17
      have t6i := t6h.trans s17
      refine ⟨_, rfl, l, _, rfl, .inl (SqL.of (t2i _ _ hl)), _, _, rfl, rfl, _, rfl, ite2 (fun e => ?_) (fun _ => ⟨⟨_, rfl⟩, s17⟩)⟩
      have e1 := of_decide_eq_true e
      obtain ⟨⟨a0, b0, c0⟩, e0⟩ : ∃ d, ds[0]? = some d := ⟨_, List.getElem?_eq_getElem (by omega)⟩
      obtain ⟨v, hv, q, rfl, hq⟩ := a2.get e0
      refine ⟨_, rfl, _, rfl, l, _, _, _, rfl, rfl, SqL.of (t2i _ _ hl), at_of (j := 0) rfl hv, q, _, _, _, rfl, rfl, SqT.of (t2i _ _ hq), rfl, rfl, _, rfl, ite2 (fun e2 => ?_) (fun _ => ⟨⟨_, rfl⟩, s17⟩)⟩
      refine ⟨_, rfl, _, rfl, l, _, _, _, rfl, rfl, SqL.of (t2i _ _ hl), at_of (j := 0) rfl hv, q, _, _, _, rfl, rfl, SqT.of (t2i _ _ hq), rfl, rfl, _, rfl, ite2 (fun e3 => ?_) (fun _ => ⟨⟨_, rfl⟩, s17⟩)⟩
      have f2 : 0 + (i : Int) ≠ a0 := by simpa using e2
      have f3 : 0 + (i : Int) ≠ b0 := by simpa using e3
      exact ⟨_, rfl, _, rfl, hx, n, g, ds, 0, 0 + (i : Int), false, rfl, ha.same t6i, t0, tell_small (by omega) (by omega), by omega, .inr (.inr ⟨rfl, by decide, ⟨by omega, by omega⟩, ⟨a0, b0, c0, e0, f2, f3⟩, fun H18 s18 => ⟨rfl, _, rfl, ite2 (fun e => absurd e (by simp)) (fun _ => ⟨⟨_, rfl⟩, s17.trans s18⟩)⟩⟩)⟩
    rintro σ H17 ⟨⟨x13, rfl⟩, s17⟩
    have t6i := t6h.trans s17
    refine ⟨_, rfl, _, rfl, hx, kr, n, g, ds, rfl, ha.same t6i, cs, hne, by omega, t6i _ _ hkr, fun H18 s18 => ⟨true, rfl, iteF ?_⟩⟩
    have t2j := (t2h.trans s17).trans s18
    have t6j := t6i.trans s18
    have t4j := t47.trans t6j
    obtain ⟨C', dx', tt, rf, hc, h1', h2', h3'⟩ := (ha.same t6j).ex
    have hrf := h3'.len
    have hrr := b2.len
    have hl18 := t2j _ _ hl
    have hrl18 := t4j _ _ hrl
    have ha18 := a2.imp fun v d q => q.same t2j
    have b18 := b2.imp fun v d q => q.same t4j
    clear t2j t6j t4j t6i t2h t6h t2g t6g t2f t6f
    refine ⟨_, rfl, hx, C', dx', _, _, rfl, h1', hc.cl, hc.nD, rfl, _, _, _, _, _, rfl, .ty "tuple", .base (.tup h2'), kit_tt, true, rfl, iteF ?_⟩
    refine ⟨_, rfl, hx, C', dx', _, _, rfl, h1', hc.cl, hc.nD, rfl, tt, rf, rfl, .inr (SqT.of h2'), _, rfl, l, _, rfl, .inl (SqL.of hl18), rfl, _, rfl, ite2 (fun e => absurd e (by rw [hrf, hrn]; simp)) (fun _ => ?_)⟩
    refine ⟨_, rfl, rl, _, rfl, .inl (SqL.of hrl18), _, rfl, l, _, rfl, .inl (SqL.of hl18), rfl, _, rfl, ite2 (fun e => absurd e (by rw [hrr, hrn]; simp)) (fun _ => ?_)⟩
    refine ⟨_, rfl, l, _, rfl, .inl (SqL.of hl18), _, rfl, by omega, by omega, for_range (lo := 0) (n := _) (fun i σ H' => (∃ x14 : Option V, σ = stL a rw n l g (some (.ref rl)) (some (.ref pl)) (some (.ref hx)) (some (.ref kr)) (some (.ref ox)) (some (.ref sp)) (some (.ref nm)) x13 x14) ∧ Same H18 H') ⟨⟨none, rfl⟩, fun _ _ e => e⟩ ?_ ?_⟩
    · rintro i σ H19 hi ⟨⟨x14, rfl⟩, s19⟩
      obtain ⟨⟨a0, b0, c0⟩, e0⟩ : ∃ d, ds[i]? = some d := ⟨_, List.getElem?_eq_getElem (by omega)⟩
      obtain ⟨v1, hv1, q1, rfl, hq1⟩ := h3'.get e0
      obtain ⟨v2, hv2, q2, rfl, hq2⟩ := ha18.get e0
      obtain ⟨v3, hv3, q3, rfl, hq3⟩ := b18.get e0
      have hsh := shaped_door a0 b0 (c := c0) fun x hx => by
        have := gok.az x ((G.cyc _ (List.mem_of_getElem? e0)).1.1 x hx)
        omega
      refine ⟨_, rfl, hx, C', dx', _, _, rfl, s19 _ _ h1', hc.cl, hc.nD, rfl, _, rfl, tt, _, _, _, rfl, rfl, SqT.of (s19 _ _ h2'), at_of (j := i) (by omega) hv1, q1, _, rfl, .inr ⟨SqT.of (s19 _ _ hq1), ?_⟩⟩
      refine ⟨_, rfl, _, rfl, l, _, _, _, rfl, rfl, SqL.of (s19 _ _ hl18), at_of (j := i) (by omega) hv2, _, _, dp_door (s19 _ _ hq1), dp_door (s19 _ _ hq2), hsh, hsh, _, rfl, ?_⟩
      rw [eqv_shaped hsh]
      refine iteF ?_
      refine ⟨_, rfl, _, rfl, rl, _, _, _, rfl, rfl, SqL.of (s19 _ _ hrl18), at_of (j := i) (by omega) hv3, q3, [.int a0, .int b0, .str (S c0)], rfl, ?_⟩
      rcases hq3 with hq3 | hq3
      · refine .inr ⟨SqT.of (s19 _ _ hq3), _, rfl, _, rfl, l, _, _, _, rfl, rfl, SqL.of (s19 _ _ hl18), at_of (j := i) (by omega) hv2, _, _, dp_door (s19 _ _ hq3), dp_door (s19 _ _ hq2), hsh, hsh, _, rfl, ?_⟩
        rw [eqv_shaped hsh]
        exact iteF ⟨⟨_, rfl⟩, s19⟩
      · refine .inl ⟨SqL.of (s19 _ _ hq3), fun tp htp => ⟨_, rfl, _, rfl, l, _, _, _, rfl, rfl, SqL.of (nk (s19 _ _ hl18) htp), at_of (j := i) (by omega) hv2, _, _, dp_door upd_same, dp_door (nk (s19 _ _ hq2) htp), hsh, hsh, _, rfl, ?_⟩⟩
        rw [eqv_shaped hsh]
        exact iteF ⟨⟨_, rfl⟩, same_upd s19 (s19.free htp)⟩
    rintro σ H19 ⟨⟨x14, rfl⟩, s19⟩
    have h1 := s19 _ _ h1'
    refine ⟨_, rfl, hx, C', dx', _, _, rfl, h1, hc.cl, hc.nR, rfl, n, rfl, true, rfl, iteT ?_⟩
    refine ⟨_, rfl, hx, C', dx', _, _, rfl, h1, hc.cl, hc.nR, rfl, _, rfl, rfl, _, rfl, ?_⟩
    rw [decide_eq_true rfl]
    refine iteT ⟨_, rfl, hx, C', dx', _, _, rfl, h1, hc.cl, hc.nT, rfl, _, rfl, rfl, ?_⟩
    rw [decide_eq_true rfl]
    exact kQ _
end
end Lh
set_option Elab.async false
set_option linter.all false
set_option maxRecDepth 100000
set_option maxHeartbeats 0
namespace Lh.Hd
open PySem PySem.Spec PyProof.Rows L2 SX
section
variable {P : Program} {w : World} {K : PySem.W.Frag} {h : Heap} {mg : Str → Option Value}
theorem dfn_of (X : K.In h) (G : h.Ns mainGlobals mg) (c : He.SaysD fa fn K) {x : Str} {st : Stmt} (i j : Nat) (h1 : fn[i]? = some ⟨(x, none), x, x, defArgs st, defBody st, defScope st, [], []⟩) (h2 : fa[j]? = some (.glo x)) : Dfn K mg x st := by
  obtain ⟨fd, F⟩ := c.def_ i h1
  exact ⟨_, fd, F, He.glo_ok X G (c.fact j h2)⟩
theorem facts {f : Addr} (X : K.In h) (G : h.Ns mainGlobals mg) (hfa : mg ("law" : Str) = some (.ref f)) (Z : He.SaysX fa fn [] [] exB w h K) :
    ∃ fd : FuncData, (∀ (s : Shared) (v : Value), BindsTo s fd ⟨[v], []⟩ [("_law_script", v)]) ∧ ∀ base : Heap, K.In base → base.Ns mainGlobals mg → FnOk P w K mg base CX0 7 f fd ["_law_script"] (spLaw K) := by
  have c : He.SaysD fa fn K := congrArg (fun z : He.AlT => z.1) Z.t
  have B : Blt mg := ⟨He.free_ok X G (c.fact 67 (f := .free "len") rfl), He.free_ok X G (c.fact 68 (f := .free "range") rfl), He.free_ok X G (c.fact 69 (f := .free "int") rfl), He.free_ok X G (c.fact 70 (f := .free "isinstance") rfl), He.free_ok X G (c.fact 71 (f := .free "bool") rfl), He.free_ok X G (c.fact 72 (f := .free "str") rfl), He.free_ok X G (c.fact 73 (f := .free "list") rfl), He.free_ok X G (c.fact 74 (f := .free "tuple") rfl), He.free_ok X G (c.fact 75 (f := .free "all") rfl), He.free_ok X G (c.fact 76 (f := .free "set") rfl), He.free_ok X G (c.fact 77 (f := .free "max") rfl), He.free_ok X G (c.fact 78 (f := .free "sorted") rfl), He.free_ok X G (c.fact 79 (f := .free "enumerate") rfl)⟩
  have hVE : mg "ValueError" = none := He.free_ok X G (c.fact 80 (f := .free "ValueError") rfl)
  obtain ⟨m1, m⟩ := He.ba Z.more
  obtain ⟨m2, m⟩ := He.ba m
  obtain ⟨m3, m⟩ := He.ba m
  obtain ⟨m4, m⟩ := He.ba m
  obtain ⟨m5, m⟩ := He.ba m
  obtain ⟨m6, m⟩ := He.ba m
  obtain ⟨m7, m⟩ := He.ba m
  obtain ⟨m8, m⟩ := He.ba m
  obtain ⟨m9, m⟩ := He.ba m
  obtain ⟨m10, m11⟩ := He.ba m
  have G2 : Glb mg := ⟨PySem.W.mg_of X G (He.eqO_ok m1), PySem.W.mg_of X G (He.eqO_ok m2)⟩
  have eU : Lh.ExcC K mg "UnknownPart" (He.ga K "UnknownPart") := by
    obtain ⟨k1, k2, k3, k4⟩ := He.exc_ok (c.fact 91 (f := .exc "UnknownPart") rfl)
    exact ⟨He.glo_ok X G (c.fact 47 (f := .glo "UnknownPart") rfl), k1, k2, k3, k4⟩
  have eN : Lh.ExcC K mg "NotThere" (He.ga K "NotThere") := by
    obtain ⟨k1, k2, k3, k4⟩ := He.exc_ok (c.fact 92 (f := .exc "NotThere") rfl)
    exact ⟨He.glo_ok X G (c.fact 61 (f := .glo "NotThere") rfl), k1, k2, k3, k4⟩
  have eH : Lh.ExcC K mg "HouseError" (He.ga K "HouseError") := by
    obtain ⟨k1, k2, k3, k4⟩ := He.exc_ok (c.fact 93 (f := .exc "HouseError") rfl)
    exact ⟨He.glo_ok X G (c.fact 40 (f := .glo "HouseError") rfl), k1, k2, k3, k4⟩
  have F : ExF K (He.ga K "UnknownPart") (He.ga K "NotThere") (He.ga K "HouseError") := ⟨He.exm_ok (c.fact 94 (f := .exm "UnknownPart" "UnknownPart" true) rfl), He.exm_ok (c.fact 96 (f := .exm "NotThere" "UnknownPart" false) rfl), He.exm_ok (c.fact 97 (f := .exm "NotThere" "NotThere" true) rfl), He.exm_ok (c.fact 98 (f := .exm "UnknownPart" "HouseError" true) rfl), He.exm_ok (c.fact 99 (f := .exm "NotThere" "HouseError" true) rfl)⟩
  have hg : ∀ x ∈ famAll, mg x = some (.ref (He.ga K x)) := by
    intro x hx
    simp only [famAll, famA, fam1, fam2, fam3, List.mem_append, List.mem_cons, List.not_mem_nil, or_false] at hx
    rcases hx with (((rfl|rfl|rfl)|(rfl|rfl|rfl|rfl|rfl|rfl|rfl))|(rfl|rfl|rfl|rfl|rfl|rfl|rfl|rfl|rfl))|(rfl|rfl|rfl|rfl|rfl|rfl|rfl)
    · exact He.glo_ok X G (c.fact 47 (f := .glo "UnknownPart") rfl)
    · exact He.glo_ok X G (c.fact 61 (f := .glo "NotThere") rfl)
    · exact He.glo_ok X G (c.fact 40 (f := .glo "HouseError") rfl)
    · exact He.glo_ok X G (c.fact 42 (f := .glo "BadDeed") rfl)
    · exact He.glo_ok X G (c.fact 43 (f := .glo "InvalidText") rfl)
    · exact He.glo_ok X G (c.fact 44 (f := .glo "NotPossible") rfl)
    · exact He.glo_ok X G (c.fact 45 (f := .glo "Refused") rfl)
    · exact He.glo_ok X G (c.fact 46 (f := .glo "InvalidStanding") rfl)
    · exact He.glo_ok X G (c.fact 41 (f := .glo "InvalidHouse") rfl)
    · exact He.glo_ok X G (c.fact 48 (f := .glo "UnlikeHands") rfl)
    · exact He.glo_ok X G (c.fact 49 (f := .glo "WrongTrades") rfl)
    · exact He.glo_ok X G (c.fact 50 (f := .glo "NoDoors") rfl)
    · exact He.glo_ok X G (c.fact 51 (f := .glo "NotEven") rfl)
    · exact He.glo_ok X G (c.fact 52 (f := .glo "NotOdd") rfl)
    · exact He.glo_ok X G (c.fact 53 (f := .glo "NotTree") rfl)
    · exact He.glo_ok X G (c.fact 54 (f := .glo "NotStrict") rfl)
    · exact He.glo_ok X G (c.fact 55 (f := .glo "NotSwift") rfl)
    · exact He.glo_ok X G (c.fact 56 (f := .glo "TooFewHands") rfl)
    · exact He.glo_ok X G (c.fact 57 (f := .glo "NoPair") rfl)
    · exact He.glo_ok X G (c.fact 58 (f := .glo "NoCrew") rfl)
    · exact He.glo_ok X G (c.fact 59 (f := .glo "NoMaster") rfl)
    · exact He.glo_ok X G (c.fact 60 (f := .glo "NotTogether") rfl)
    · exact He.glo_ok X G (c.fact 62 (f := .glo "BadSteps") rfl)
    · exact He.glo_ok X G (c.fact 63 (f := .glo "NotDead") rfl)
    · exact He.glo_ok X G (c.fact 64 (f := .glo "NotLive") rfl)
    · exact He.glo_ok X G (c.fact 65 (f := .glo "NotRooted") rfl)
  have fF : FamF K mg (He.ga K) := ⟨hg, exI_ok m3, exI_ok m4, fun x hx => of_decide_eq_true (He.ba (List.all_eq_true.mp m5 x hx)).1, fun x hx => of_decide_eq_true (He.ba (List.all_eq_true.mp m5 x hx)).2, of_decide_eq_true m6, of_decide_eq_true m7, of_decide_eq_true m8, of_decide_eq_true m9, of_decide_eq_true m10, of_decide_eq_true m11⟩
  obtain ⟨fdI, FI⟩ := c.def_ 40 (d := ⟨("House", some "__init__"), "__init__", "House.__init__", defArgs (inClass (top 33) 0), defBody (inClass (top 33) 0), defScope (inClass (top 33) 0), [], [("trades", .str "RB")]⟩) rfl
  have FI2 : FunD K "__init__" "House.__init__" (defArgs (inClass (top 33) 0)) (defBody (inClass (top 33) 0)) (defScope (inClass (top 33) 0)) [] [("trades", .str (Str.ofString "RB"))] (He.fAd K ("House", some "__init__")) fdI := FI
  rw [strRB] at FI2
  have Hd : HouseDef K mg (He.ga K "House") (He.ma K (He.ga K "House") "__init__") fdI := ⟨⟨He.cls_ok (c.fact 86 (f := .cls "House") rfl), He.noat_ok (c.fact 87 (f := .noat "House" "rooms") rfl), He.noat_ok (c.fact 88 (f := .noat "House" "doors") rfl), He.noat_ok (c.fact 89 (f := .noat "House" "trades") rfl)⟩, He.mkr_ok (c.fact 90 (f := .mkr "House") rfl), He.glo_ok X G (c.fact 66 (f := .glo "House") rfl), FI2⟩
  have d_is_letter : Dfn K mg "is_letter" (top 35) := dfn_of X G c 4 4 rfl rfl
  have d_are_trades : Dfn K mg "are_trades" (top 36) := dfn_of X G c 5 5 rfl rfl
  have d_has_room : Dfn K mg "has_room" (top 39) := dfn_of X G c 8 8 rfl rfl
  have d_is_door : Dfn K mg "is_door" (top 37) := dfn_of X G c 6 6 rfl rfl
  have d_neighbours_of : Dfn K mg "neighbours_of" (top 30) := dfn_of X G c 1 1 rfl rfl
  have d_ways_from : Dfn K mg "ways_from" (top 31) := dfn_of X G c 2 2 rfl rfl
  have d_hangs_together : Dfn K mg "hangs_together" (top 38) := dfn_of X G c 7 7 rfl rfl
  have d_check_house : Dfn K mg "check_house" (top 34) := dfn_of X G c 3 3 rfl rfl
  have d_need_rooms : Dfn K mg "need_rooms" (top 41) := dfn_of X G c 10 10 rfl rfl
  have d_doors_at : Dfn K mg "doors_at" (top 44) := dfn_of X G c 13 13 rfl rfl
  have d_law_doors_at : Dfn K mg "_law_doors_at" (top 66) := dfn_of X G c 34 34 rfl rfl
  have d_has_door : Dfn K mg "has_door" (top 40) := dfn_of X G c 9 9 rfl rfl
  have d_need_doors : Dfn K mg "need_doors" (top 42) := dfn_of X G c 11 11 rfl rfl
  have d_far_end : Dfn K mg "far_end" (top 29) := dfn_of X G c 0 0 rfl rfl
  have d_other_end : Dfn K mg "other_end" (top 45) := dfn_of X G c 14 14 rfl rfl
  have d_law_family : Dfn K mg "_law_family" (top 68) := dfn_of X G c 36 36 rfl rfl
  have d_law_is_integer : Dfn K mg "_law_is_integer" (top 58) := dfn_of X G c 26 26 rfl rfl
  have d_law_integers : Dfn K mg "_law_integers" (top 59) := dfn_of X G c 27 27 rfl rfl
  have d_law_doors_right : Dfn K mg "_law_doors_right" (top 69) := dfn_of X G c 37 37 rfl rfl
  have d_cycles_of : Dfn K mg "cycles_of" (top 43) := dfn_of X G c 12 12 rfl rfl
  have d_is_odd : Dfn K mg "is_odd" (top 47) := dfn_of X G c 16 16 rfl rfl
  have d_is_even : Dfn K mg "is_even" (top 48) := dfn_of X G c 17 17 rfl rfl
  have d_is_strict : Dfn K mg "is_strict" (top 49) := dfn_of X G c 18 18 rfl rfl
  have d_is_tree : Dfn K mg "is_tree" (top 50) := dfn_of X G c 19 19 rfl rfl
  have d_is_swift : Dfn K mg "is_swift" (top 51) := dfn_of X G c 20 20 rfl rfl
  have d_longest_cycle : Dfn K mg "longest_cycle" (top 46) := dfn_of X G c 15 15 rfl rfl
  have d_law_kinds_right : Dfn K mg "_law_kinds_right" (top 65) := dfn_of X G c 33 33 rfl rfl
  have d_law_other_end : Dfn K mg "_law_other_end" (top 67) := dfn_of X G c 35 35 rfl rfl
  have d_law_cell : Dfn K mg "_law_cell" (top 53) := dfn_of X G c 21 21 rfl rfl
  have d_law_odd_cycle : Dfn K mg "_law_odd_cycle" (top 55) := dfn_of X G c 23 23 rfl rfl
  have d_law_row : Dfn K mg "_law_row" (top 54) := dfn_of X G c 22 22 rfl rfl
  have d_law_any_cycle : Dfn K mg "_law_any_cycle" (top 56) := dfn_of X G c 24 24 rfl rfl
  have d_law_house : Dfn K mg "_law_house" (top 57) := dfn_of X G c 25 25 rfl rfl
  have d_law_guild : Dfn K mg "_law_guild" (top 62) := dfn_of X G c 30 30 rfl rfl
  have d_law_guild_cycle : Dfn K mg "_law_guild_cycle" (top 61) := dfn_of X G c 29 29 rfl rfl
  have d_law_guild_house : Dfn K mg "_law_guild_house" (top 60) := dfn_of X G c 28 28 rfl rfl
  have d_law_drawn : Dfn K mg "_law_drawn" (top 63) := dfn_of X G c 31 31 rfl rfl
  have d_law_kinds : Dfn K mg "_law_kinds" (top 64) := dfn_of X G c 32 32 rfl rfl
  have d_law_ends_right : Dfn K mg "_law_ends_right" (top 70) := dfn_of X G c 38 38 rfl rfl
  obtain ⟨fdL, FL⟩ := c.def_ 39 (d := ⟨("law", none), "law", "law", defArgs (top 71), defBody (top 71), defScope (top 71), [], []⟩) rfl
  have e := hfa.symm.trans (He.glo_ok X G (c.fact 39 (f := .glo "law") rfl))
  cases e
  have b := FunD.bindsA (ps := ["_law_script"]) FL fun _ _ _ _ _ _ us hl => match us, hl with | [_], _ => rfl
  refine ⟨fdL, fun s v => b s [v] rfl, fun base _ _ => ?_⟩
  have r_is_letter := ok_let (P := P) (w := w) (base := base) B d_is_letter
  have r_are_trades := ok_tr (P := P) (w := w) (base := base) B d_are_trades r_is_letter
  have r_has_room := ok_hr (P := P) (w := w) (base := base) B d_has_room
  have r_is_door := ok_dr (P := P) (w := w) (base := base) B d_is_door r_has_room
  have r_neighbours_of := ok_nbs (P := P) (w := w) (base := base) B d_neighbours_of
  have r_ways_from := ok_way (P := P) (w := w) (base := base) B G2 d_ways_from r_neighbours_of
  have r_hangs_together := ok_ht (P := P) (w := w) (base := base) B d_hangs_together r_ways_from
  have r_check_house := ok_ch (P := P) (w := w) (base := base) B d_check_house r_are_trades r_is_door r_hangs_together
  have r_House := ok_in (P := P) (w := w) (base := base) B Hd r_check_house
  have r_need_rooms := ok_nr (P := P) (w := w) (base := base) B d_need_rooms eU r_has_room
  have r_doors_at := ok_da (P := P) (w := w) (base := base) B d_doors_at r_need_rooms
  have r_law_doors_at := ok_lda (P := P) (w := w) (base := base) B d_law_doors_at F eU r_doors_at
  have r_has_door := ok_hd (P := P) (w := w) (base := base) B d_has_door
  have r_need_doors := ok_nd (P := P) (w := w) (base := base) B d_need_doors eU r_has_door
  have r_far_end := ok_far (P := P) (w := w) (base := base) B d_far_end
  have r_other_end := ok_oe (P := P) (w := w) (base := base) B d_other_end eN r_need_rooms r_need_doors r_far_end
  have r_law_family := ok_fam (P := P) (w := w) (base := base) B hVE d_law_family fF F eH r_doors_at r_other_end
  have r_law_is_integer := ok_ii (P := P) (w := w) (base := base) B d_law_is_integer
  have r_law_integers := ok_il (P := P) (w := w) (base := base) B d_law_integers r_law_is_integer
  have r_law_doors_right := ok_drt (P := P) (w := w) (base := base) B d_law_doors_right r_law_doors_at r_law_family r_law_integers
  have r_cycles_of := ok_cy (P := P) (w := w) (base := base) B d_cycles_of
  have r_is_odd := ok_od (P := P) (w := w) (base := base) B d_is_odd r_cycles_of
  have r_is_even := ok_ev (P := P) (w := w) (base := base) B d_is_even r_cycles_of
  have r_is_strict := ok_str (P := P) (w := w) (base := base) B d_is_strict r_cycles_of
  have r_is_tree := ok_tre (P := P) (w := w) (base := base) B d_is_tree
  have r_is_swift := ok_sw (P := P) (w := w) (base := base) B d_is_swift r_cycles_of
  have r_longest_cycle := ok_lc (P := P) (w := w) (base := base) B d_longest_cycle r_cycles_of
  have r_law_kinds_right := ok_kr (P := P) (w := w) (base := base) B d_law_kinds_right r_law_is_integer r_is_odd r_is_even r_is_strict r_is_tree r_is_swift r_longest_cycle
  have r_law_other_end := ok_loe (P := P) (w := w) (base := base) B d_law_other_end F eU eN r_other_end
  have r_law_cell := ok_cell (P := P) (w := w) (base := base) B d_law_cell
  have r_law_odd_cycle := ok_odd (P := P) (w := w) (base := base) B d_law_odd_cycle
  have r_law_row := ok_row (P := P) (w := w) (base := base) B d_law_row
  have r_law_any_cycle := ok_any (P := P) (w := w) (base := base) B d_law_any_cycle
  have r_law_house := ok_house (P := P) (w := w) (base := base) B d_law_house r_law_row r_law_any_cycle r_law_odd_cycle
  have r_law_guild := ok_guild (P := P) (w := w) (base := base) B d_law_guild r_law_row
  have r_law_guild_cycle := ok_gcyc (P := P) (w := w) (base := base) B d_law_guild_cycle
  have r_law_guild_house := GH.ok_ghouse (P := P) (w := w) (base := base) B d_law_guild_house r_law_row r_law_guild_cycle
  have r_law_drawn := ok_drawn (P := P) (w := w) (base := base) B d_law_drawn r_law_cell r_law_house r_law_guild r_law_guild_house
  have r_law_kinds := ok_ki (P := P) (w := w) (base := base) B d_law_kinds
  have r_law_ends_right := ok_er (P := P) (w := w) (base := base) B d_law_ends_right r_law_other_end r_law_is_integer
  exact ok_law B FL Hd r_House r_law_cell r_law_row r_law_drawn r_law_kinds r_law_kinds_right r_law_doors_right r_law_ends_right r_law_family r_law_is_integer
end
end Lh.Hd
open PySem PySem.W PySem.Calls PyProof.Rows
theorem PySem.Challenge.cw_lanternhouse_k03_kinds_and_doors_of_hous_holds : PySem.Challenge.rw_lanternhouse_k03_kinds_and_doors_of_hous.Holds := by
  w_on; o_law
  refine HandSHeadRun.head_imp (r := OpenLaw.row PySem.Challenge.rw_lanternhouse_k03_kinds_and_doors_of_hous) (q := Lh.Hd.qv) (H := Lh.Hd.hk) (ob := Lh.Hd.ob) (M := 60000) (loose := Lh.Hd.names) (d := HandSHeadRun.topDef (OpenLaw.row PySem.Challenge.rw_lanternhouse_k03_kinds_and_doors_of_hous).prog 71) (kwd := []) Lh.Hd.ob_eq
    Lh.Hd.run (by kernel_rfl) (by kernel_rfl) (by kernel_rfl) (by rfl) (by first | assumption | decide +kernel) (by decide +kernel) ⟨rfl, rfl, rfl, rfl, rfl, by decide +kernel⟩ ?hw ?hc
  case hw => w_witness2
  case hc =>
    refine L2.walk_ofE (l := PySem.Challenge.rw_lanternhouse_k03_kinds_and_doors_of_hous) (n := 63) (k := 7) (x := "_law_script") (CX := L2.CX0) rfl (by decide) (by kernel_rfl) ⟨rfl, by decide, by decide⟩ ?F (fun _ _ _ _ z => z)
    intro w mg fa h Y G hmg0
    obtain ⟨K, KX, Z⟩ := Y
    have hmg : mg ("law" : PySem.Str) = some (.ref fa) := by
      have e : (HandSHeadRun.topDef (OpenLaw.row PySem.Challenge.rw_lanternhouse_k03_kinds_and_doors_of_hous).prog 71).name = ("law" : PySem.Str) := by kernel_rfl
      rw [← e]
      exact hmg0
    obtain ⟨fd, hb, hF⟩ := Lh.Hd.facts (P := (PySem.Challenge.rw_lanternhouse_k03_kinds_and_doors_of_hous).prog) (w := w) KX G hmg Z
    exact ⟨K, fd, Lh.spLaw K, KX, hb, fun H a ns hl _ hS => ⟨a, ns, rfl, hS, fun _ => rfl⟩, hF⟩
