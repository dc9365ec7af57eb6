import PyProof.Rows.All
import HandS.ForMost
import HandS.ForExc
import HandS.Defaults
import HandS.HeadHook2
import Wide.All
import OpenK.AllK
import Wide.FinOn
import KE.KStateDown
import Lean
import HandS.Codes
import HandS.ReplaceList
import HandS.Text
import HandS.Exc
import HandS.ExcOwn
import HandS.WordsExc
import HandS.More
import HandS.Deep
import HandS.Conv
import HandS.Style
import HandS.IsInst
import HandS.SortInts
import HandS.TupAny
import KE.DataMinMax
import PyProof.Rows.CallKwBuiltin
import HandS.ReplaceLit
import PyProof.Rows.SetFrom
import PyProof.SetRoads
import PyProof.StrWalks
import PyProof.FactsAll.set_1
import HandS.RaiseMore
import HandS.FStr
import HandS.TryMany
import HandS.TryOnly
import HandS.ExcIs
import HandS.HeadHook1
import HandS.Iter
import HandS.Walk
import HandS.Zip
import KE.GoesEnum
import KE.GoesMore
import PyProof.EnumMake
import PyProof.EnumFor
import HandS.Comp
import PySem.Challenge.RW_lanternhouse_k32_coins
import HandS.Head3
import HandS.HeadEnd
import HandS.HeadHook4
import HandS.HeadHook3
import HandS.MakeKwOnly
import HandS.ExcField
import KE.KExcSuper
import HandS.ExcInit
import KE.KMatchCls
import HandS.Gcd
import HandS.Dict
import PyProof.Walk
import PyProof.WalkLemmas
import PyProof.SeqWrite
import PyProof.MeetsSeq
import HandS.Sort
import PyProof.PureInt
import PyProof.MinMaxWalk
import HandS.DictSubView
import HandS.Strs
import HandS.DictComp
import HandS.SetFor
import KE.DataFind
import KE.KOpsOwn
import HandS.List
set_option Elab.async false
set_option linter.all false
set_option maxRecDepth 100000
set_option maxHeartbeats 4000000
/-! Lanternhouse: words of our own over the hand layer (no program text here). -/
namespace Lh
open PySem PySem.Spec PyProof.Rows L2

/-- a def that the module's name x stands for, and its promise -/
structure Cal (P : Program) (w : World) (K : PySem.W.Frag) (mg : Str → Option Value) (base : Heap) (CX : CXT) (k : Nat) (x : Str) (ps : List Str) (sp : Sp) : Prop where
  ex : ∃ f fd, FnOk P w K mg base CX k f fd ps sp ∧ mg x = some (.ref f) ∧ PySem.W.keepIn K (.ref f) = true ∧ Binds K fd ps []
/-- a def of the top as the head tells it -/
structure Dfn (K : PySem.W.Frag) (mg : Str → Option Value) (x : Str) (st : Stmt) : Prop where
  ex : ∃ f fd, FunD K x x (defArgs st) (defBody st) (defScope st) [] [] f fd ∧ mg x = some (.ref f)

section
variable {P : Program} {w : World} {K : PySem.W.Frag} {mg : Str → Option Value} {base : Heap}
theorem Dfn.cal {CX : CXT} {x : Str} {st : Stmt} {N ps : List Str} {k : Nat} {sp : Sp} (D : Dfn K mg x st) (S : FnScope N ps (defScope st)) (len : ∀ vs H Q E, sp vs H Q E → vs.length = ps.length)
    (hb : ∀ (kV doc pm : Value) (an : Option Addr) (cdv ct : Value) (us : List Value), us.length = ps.length → bindArgs (PySem.W.fnOf x x (defArgs st) (defBody st) (defScope st) .none kV doc pm an cdv ct) ⟨us, []⟩ = pure (ps.zip us))
    (hbody : ∀ (f : Addr) (cdv : Value) (A : Around) (outer : List Env) (s : Shared) (H : Hp) (vs : List V) (Q : VK) (E : XK), Room k (A.deeper (envOfC x (defScope st) s.heap.objs.size f cdv)) → sp vs H Q E →
      ∃ t, PSs (cxOf CX P w K mg base N x (defScope st) f cdv A outer s H E) (defBody st) t ∧ t { nx := fun _ H' => Q .non H', rt := Q } (start N vs) H) : Cal P w K mg base CX (k + 1) x ps sp := by
  obtain ⟨f, fd, F, g⟩ := D.ex
  exact ⟨f, fd, F.ok S len (hbody f), g, F.kp, F.bindsN hb⟩
/-- the same, no exception leaves -/
theorem Dfn.cal0 {x : Str} {st : Stmt} {N ps : List Str} {k : Nat} {sp : Sp} (D : Dfn K mg x st) (S : FnScope N ps (defScope st)) (len : ∀ vs H Q E, sp vs H Q E → vs.length = ps.length)
    (hb : ∀ (kV doc pm : Value) (an : Option Addr) (cdv ct : Value) (us : List Value), us.length = ps.length → bindArgs (PySem.W.fnOf x x (defArgs st) (defBody st) (defScope st) .none kV doc pm an cdv ct) ⟨us, []⟩ = pure (ps.zip us))
    (hbody : ∀ (f : Addr) (cdv : Value) (A : Around) (outer : List Env) (s : Shared) (H : Hp) (vs : List V) (Q : VK) (E : XK), Room k (A.deeper (envOfC x (defScope st) s.heap.objs.size f cdv)) → sp vs H Q E →
      ∃ t, PSs (cxOf CX0 P w K mg base N x (defScope st) f cdv A outer s H E).nox (defBody st) t ∧ t { nx := fun _ H' => Q .non H', rt := Q } (start N vs) H) : Cal P w K mg base CX0 (k + 1) x ps sp :=
  D.cal S len hb fun f cdv A outer s H vs Q E hr h => by
    obtain ⟨t, h1, h2⟩ := hbody f cdv A outer s H vs Q E hr h
    exact ⟨t, h1.nox, h2⟩
theorem Cal.mono {CX : CXT} {x : Str} {ps : List Str} {j k : Nat} {sp : Sp} (C : Cal P w K mg base CX j x ps sp) (h : j ≤ k) : Cal P w K mg base CX k x ps sp := by
  obtain ⟨f, fd, F, g⟩ := C.ex
  exact ⟨f, fd, F.mono h, g⟩
theorem Cal.imp {CX : CXT} {x : Str} {ps : List Str} {k : Nat} {sp sp' : Sp} (C : Cal P w K mg base CX k x ps sp) (h : ∀ vs H Q E, sp' vs H Q E → sp vs H Q E) : Cal P w K mg base CX k x ps sp' := by
  obtain ⟨f, fd, F, g⟩ := C.ex
  exact ⟨f, fd, F.imp h, g⟩
end
section
variable {X : Cx} {x : Str} {ps : List Str} {j k : Nat} {sp : Sp} {e : Expr} {es : List Expr} {p pos : Pos} {t : TA}
/-- f(a, ..): a def that lets no exception out -/
theorem pcl (C : Cal X.prog X.w X.K X.mg X.base CX0 k x ps sp) (hr : Room j X.A) (ha : PA X (e :: es) t) (hk : k ≤ j := by decide) (hg : Gl X x := by rfl) (hdb : (x == ("__debug__" : Str)) = false := by decide)
    (he : starEach (e :: es) X.env = (false, eval e X.env) :: starEach es X.env := by rfl) (hpl : (backTo pos (starEach es X.env)).any (·.1) = false := by rfl) :
    PE X (.Call (.Name x p) (e :: es) [] pos) (tCall sp [] E0 t) := by
  obtain ⟨f, fd, F, g, kp, b⟩ := C.ex
  exact pe_call F (hr.mono hk) hg g kp b .nil pass0 ha hdb he hpl
end

/-! ### heaps -/
theorem same_new {H : Hp} {p : Addr} {o : HO} (hp : H p = none) : Same H (upd H p o) := fun b u e => by
  rw [upd_ne (ne_of_none e hp)]
  exact e
theorem same_upd {H H' : Hp} {p : Addr} {o : HO} (s : Same H H') (hp : H p = none) : Same H (upd H' p o) := fun b u e => by
  rw [upd_ne (ne_of_none e hp)]
  exact s b u e
theorem Same.seqT {K : PySem.W.Frag} {H H' : Hp} {a : Addr} {xs : List V} (e : Same H H') (h : SqT K H a xs) : SqT K H' a xs := by
  rcases h with (h | ⟨o, h⟩) | h
  · exact .inl (.inl (e _ _ h))
  · exact .inl (.inr ⟨o, e _ _ h⟩)
  · exact .inr h

/-! ### rows of draws -/
def RowOk (row ns : List Int) : Prop := row.length = ns.length ∧ ∀ (j : Nat) (z n : Int), row[j]? = some z → ns[j]? = some n → 0 ≤ z ∧ z < n
theorem RowOk.nil : RowOk [] [] := ⟨rfl, fun j z n h => by simp at h⟩
theorem RowOk.more {row ns : List Int} {i : Nat} {z n : Int} (r : RowOk row (ns.take i)) (hn : ns[i]? = some n) (h0 : 0 ≤ z) (h1 : z < n) : RowOk (row ++ [z]) (ns.take (i + 1)) := by
  obtain ⟨rl, rr⟩ := r
  have hi : i < ns.length := (List.getElem?_eq_some_iff.mp hn).1
  have li : row.length = i := by rw [rl, List.length_take]; omega
  refine ⟨by simp [li, List.length_take]; omega, fun j y m h1' h2' => ?_⟩
  by_cases hj : j < i
  · rw [List.getElem?_append_left (by omega)] at h1'
    refine rr j y m h1' ?_
    rw [List.getElem?_take_of_lt (by omega)] at h2'
    rw [List.getElem?_take_of_lt hj]
    exact h2'
  · have hji : j = i := by
      have := (List.getElem?_eq_some_iff.mp h1').1
      simp [li] at this
      omega
    subst hji
    rw [List.getElem?_take_of_lt (by omega), hn] at h2'
    rw [List.getElem?_append_right (by omega), li] at h1'
    simp at h1' h2'
    subst h1' h2'
    exact ⟨h0, h1⟩
theorem RowOk.get {row ns : List Int} (r : RowOk row ns) {j : Nat} {n : Int} (h : ns[j]? = some n) : ∃ z, row[j]? = some z ∧ 0 ≤ z ∧ z < n := by
  have hl := (List.getElem?_eq_some_iff.mp h).1
  have e : row[j]? = some (row[j]'(by rw [r.1]; exact hl)) := List.getElem?_eq_getElem _
  exact ⟨_, e, r.2 j _ n e h⟩
theorem map_get {ns : List Int} {j : Nat} {n : Int} (h : ns[j]? = some n) : (ns.map V.int)[j]? = some (.int n) := by rw [List.getElem?_map, h]; rfl

theorem mp {i j : Int} (h : 0 < j) : (fun (_ : Int) (j : Int) => 0 < j) i j := h
/-! ### readings: a name's slot; a value's form -/
local macro_rules | `(tactic| walk_at "rd1") => `(tactic| first
  | refine ⟨_, rfl, ?_⟩
  | refine ⟨_, _, rfl, rfl, ?_⟩)
local macro_rules | `(tactic| walk_at "rd") => `(tactic| repeat walk_at "rd1")
end Lh
namespace Lh
open PySem PySem.Spec PyProof.Rows L2
/-- what stood stands beside a new object -/
theorem nk {H : Hp} {a p : Addr} {u o : HO} (h : H a = some u) (hp : H p = none) : upd H p o a = some u := by
  rw [upd_ne (ne_of_none h hp)]
  exact h
end Lh
set_option Elab.async false
set_option linter.all false
set_option maxRecDepth 100000
set_option maxHeartbeats 4000000
/-! Texts by their signs; cycles. -/
namespace Lh
open PySem PySem.Spec PyProof.Rows L2 SX
theorem codes (l : List Nat) : (S l).cps.toList = l := by simp [S]
theorem cnt_count (c : Nat) : ∀ l : List Nat, cnt c l = ((l.count c : Nat) : Int)
  | [] => by rw [cnt_nil]; rfl
  | a :: l => by
    rw [cnt_cons, cnt_count c l, List.count_cons]
    by_cases h : a = c
    · subst h
      simp
      omega
    · have h2 : ¬ c = a := fun e => h e.symm
      simp [h, h2]
theorem count_S (l : List Nat) (c : Nat) : Txt.count (S l) (S [c]) = ((l.count c : Nat) : Int) := by
  have e := count_cnt (S l) c
  rw [codes] at e
  rw [← cnt_count]
  exact e
theorem S_le {l : List Nat} (h : l.length ≤ 1000) : (S l).length ≤ sizeLine := by
  rw [S_len]
  exact Nat.le_of_lt (small1000 h)
/-- the letters of a cycle are those of the guild, and each of them occurs -/
def CycOk (g l : List Nat) : Prop := (∀ c ∈ l, c ∈ g) ∧ (∀ c ∈ g, c ∈ l)
/-- row[z], 0 ≤ z < its length -/
theorem row_at {row : List Int} {z : Int} (h0 : 0 ≤ z) (h1 : z < row.length) : ∃ y, atI (row.map V.int) z = some (.int y) ∧ row[z.toNat]? = some y := by
  have hz : z.toNat < row.length := by omega
  refine ⟨row[z.toNat], at_of (j := z.toNat) (by omega) ?_, List.getElem?_eq_getElem hz⟩
  rw [List.getElem?_map, List.getElem?_eq_getElem hz]
  rfl
/-- xs[z], 0 ≤ z < its length -/
theorem any_at {xs : List V} {z : Int} (h0 : 0 ≤ z) (h1 : z < xs.length) : ∃ y, atI xs z = some y ∧ xs[z.toNat]? = some y := by
  have hz : z.toNat < xs.length := by omega
  exact ⟨xs[z.toNat], at_of (j := z.toNat) (by omega) (List.getElem?_eq_getElem hz), List.getElem?_eq_getElem hz⟩
def isRB (c : Nat) : Prop := c = 82 ∨ c = 66
theorem strRB : Str.ofString "RB" = S [82, 66] := by decide +kernel
/-- 'RB'[z % 2] -/
theorem at_RB (z : Int) : ∃ c, atI (Str.ofString "RB").cps.toList (z % 2) = some c ∧ isRB c := by
  have h : z % 2 = 0 ∨ z % 2 = 1 := by omega
  rcases h with h | h
  · rw [h]
    exact ⟨82, by decide +kernel, .inl rfl⟩
  · rw [h]
    exact ⟨66, by decide +kernel, .inr rfl⟩
theorem isRB_append {l : List Nat} {c : Nat} (h : ∀ x ∈ l, isRB x) (hc : isRB c) : ∀ x ∈ l ++ [c], isRB x := fun x hx => by
  rcases List.mem_append.mp hx with q | q
  · exact h x q
  · rw [List.mem_singleton.mp q]
    exact hc
theorem cyc_of {l : List Nat} (h : ∀ x ∈ l, isRB x) (h1 : 82 ∈ l) (h2 : 66 ∈ l) : CycOk [82, 66] l :=
  ⟨fun c hc => by rcases h c hc with rfl | rfl <;> simp, fun c hc => by
    simp at hc
    rcases hc with rfl | rfl
    · exact h1
    · exact h2⟩
/-- letters of two kinds: how many -/
theorem rb_len : ∀ {l : List Nat}, (∀ x ∈ l, isRB x) → l.count 82 + l.count 66 = l.length
  | [], _ => rfl
  | a :: l, h => by
    have ih := rb_len (l := l) fun x hx => h x (List.mem_cons_of_mem _ hx)
    rcases h a List.mem_cons_self with rfl | rfl
    · simp [List.count_cons]; omega
    · simp [List.count_cons]; omega
end Lh
namespace Lh
open PySem PySem.Spec PyProof.Rows L2 SX
theorem vint {a b : Int} (h : decide (V.int a = V.int b) = true) : a = b := V.int.inj (of_decide_eq_true h)
theorem vint_no {a b : Int} (h : ¬ decide (V.int a = V.int b) = true) : a ≠ b := fun e => h (by rw [e]; exact decide_eq_true rfl)
theorem strR : Str.ofString "R" = S [82] := by decide +kernel
theorem strB : Str.ofString "B" = S [66] := by decide +kernel
theorem count_pos_of {l : List Nat} {c : Nat} (h : ((l.count c : Nat) : Int) ≠ 0) : c ∈ l := List.count_pos_iff.mp (by omega)
theorem count_zero_of {l : List Nat} {c : Nat} (h : ((l.count c : Nat) : Int) = 0) : c ∉ l := fun q => by
  have := List.count_pos_iff.mpr q
  omega
end Lh
namespace Lh
open PySem PySem.Spec PyProof.Rows L2 SX
/-- one of two texts: tails[z % 2] -/
theorem at_two {a b : Str} (z : Int) : ∃ t, atI [V.str a, V.str b] (z % 2) = some (.str t) ∧ (t = a ∨ t = b) := by
  have h : z % 2 = 0 ∨ z % 2 = 1 := by omega
  rcases h with h | h
  · rw [h]
    exact ⟨a, rfl, .inl rfl⟩
  · rw [h]
    exact ⟨b, rfl, .inr rfl⟩
end Lh
set_option Elab.async false
set_option linter.all false
set_option maxRecDepth 100000
set_option maxHeartbeats 4000000
namespace Lh
open PySem PySem.Spec PyProof.Rows L2 SX
theorem cut_take {l : List Nat} {z : Int} (h0 : 0 ≤ z) : cutS (S l) none (some z) = S (l.take z.toNat) := by
  unfold cutS
  have e : HT.sIx (S l).length (S l).length (some z) = min z.toNat l.length := by
    show (if z < 0 then _ else min z.toNat (S l).length) = _
    rw [if_neg (by omega), S_len]
  rw [HT.sIx_none, e, codes, List.drop_zero, Nat.sub_zero]
  by_cases h : z.toNat ≤ l.length
  · rw [Nat.min_eq_left h]
  · rw [Nat.min_eq_right (by omega), List.take_length, List.take_of_length_le (by omega)]
theorem cut_drop {l : List Nat} {z : Int} (h0 : 0 ≤ z) : cutS (S l) (some z) none = S (l.drop z.toNat) := by
  unfold cutS
  have e : HT.sIx (S l).length 0 (some z) = min z.toNat l.length := by
    show (if z < 0 then _ else min z.toNat (S l).length) = _
    rw [if_neg (by omega), S_len]
  rw [HT.sIx_none, e, codes, S_len]
  by_cases h : z.toNat ≤ l.length
  · rw [Nat.min_eq_left h, List.take_of_length_le (by rw [List.length_drop]; omega)]
  · rw [Nat.min_eq_right (by omega), List.drop_length, List.drop_eq_nil_of_le (by omega)]
    simp
/-- a sign of a text -/
theorem str_at {l : List Nat} {z : Int} (h0 : 0 ≤ z) (h1 : z < l.length) : ∃ c, atI (S l).cps.toList z = some c ∧ l[z.toNat]? = some c := by
  have hz : z.toNat < l.length := by omega
  have q : ∀ (j : Nat) (v : Nat), z = (j : Int) → l[j]? = some v → atI (S l).cps.toList z = some v := fun j v e h => by
    rw [e]
    refine atI_nat ?_
    rw [codes]
    exact h
  exact ⟨l[z.toNat], q z.toNat _ (by omega) (List.getElem?_eq_getElem hz), List.getElem?_eq_getElem hz⟩
/-- a one-letter text -/
abbrev let1 (c : Nat) : V := .str (S [c])
theorem join_lets (ls : List Nat) : Txt.join (S []) ((ls.map fun c => [c]).map S) = S ls := by
  rw [join_S]
  congr 1
  induction ls with
  | nil => rfl
  | cons a l ih =>
    cases l with
    | nil => rfl
    | cons b m =>
      rw [List.map_cons, List.map_cons]
      rw [List.map_cons] at ih
      show [a] ++ [] ++ TL.joinL [] ([b] :: m.map fun c => [c]) = _
      rw [ih]
      rfl
theorem strE : Str.ofString "" = S [] := by decide +kernel
structure GuildOk (g : List Nat) : Prop where
  nd : g.Nodup
  two : 2 ≤ g.length
  five : g.length ≤ 5
  az : ∀ c ∈ g, 65 ≤ c ∧ c ≤ 90
theorem guildRB : GuildOk [82, 66] := ⟨by decide, by decide, by decide, by decide⟩
end Lh
set_option Elab.async false
set_option linter.all false
set_option maxRecDepth 100000
set_option maxHeartbeats 4000000
/-! Values without addresses, what stands for them, what an expression and a statement are worth (no program text here). -/
namespace Lh.P
open PySem PySem.Spec PyProof.Rows L2 SX

/-- a value by what it says -/
inductive PV where
  | non | bl (b : Bool) | int (i : Int) | str (s : List Nat) | tup (xs : List PV) | lst (xs : List PV) | ins (C : Addr) (fs : List (Str × PV)) | scr (ns : List Int) | exr (a C : Addr) (d : Option Addr) (fs : List (Str × PV)) | dic (ks : List (L2.Key × PV)) | tun (xs : List PV)
abbrev Env := List (Option PV)

mutual
/-- v stands for the value, over what stands in H -/
def Rep (K : PySem.W.Frag) (H : Hp) : PV → V → Prop
  | .non, v => v = .non
  | .bl b, v => v = .bl b
  | .int i, v => v = .int i
  | .str s, v => v = .str (S s)
  | .tup xs, v => ∃ a vs, v = .ref a ∧ H a = some (.tup vs) ∧ Reps K H xs vs
  | .lst xs, v => ∃ a vs, v = .ref a ∧ H a = some (.lst vs) ∧ Reps K H xs vs
  | .ins C fs, v => ∃ a dx gs, v = .ref a ∧ H a = some (.ins C dx gs) ∧ RepF K H fs gs
  | .scr ns, v => ∃ a, v = .ref a ∧ SqL K H a (ns.map V.int)
  | .exr a _ d fs, v => v = .ref a ∧ ((fs = [] ∧ d = none) ∨ ∃ dx gs, d = some dx ∧ H dx = some (.xd gs) ∧ RepF K H fs gs)
  | .dic ks, v => ∃ a ws, v = .ref a ∧ H a = some (.dK ws) ∧ RepK K H ks ws
  | .tun xs, v => ∃ a vs, v = .ref a ∧ (∃ o, H a = some (.frz o (.tup vs)) ∧ o.dict = none) ∧ Reps K H xs vs
def Reps (K : PySem.W.Frag) (H : Hp) : List PV → List V → Prop
  | [], [] => True
  | x :: xs, v :: vs => Rep K H x v ∧ Reps K H xs vs
  | _, _ => False
def RepF (K : PySem.W.Frag) (H : Hp) : List (Str × PV) → List (Str × V) → Prop
  | [], [] => True
  | (f, x) :: xs, (g, v) :: vs => f = g ∧ Rep K H x v ∧ RepF K H xs vs
  | _, _ => False
def RepK (K : PySem.W.Frag) (H : Hp) : List (L2.Key × PV) → List (L2.Key × V) → Prop
  | [], [] => True
  | (f, x) :: xs, (g, v) :: vs => f = g ∧ Rep K H x v ∧ RepK K H xs vs
  | _, _ => False
end
/-- a value without a place -/
def scP : PV → Bool
  | .non => true
  | .bl _ => true
  | .int _ => true
  | .str _ => true
  | _ => false
section
variable {K : PySem.W.Frag} {H H' : Hp}
mutual
theorem Rep.mono (s : Same H H') : ∀ (p : PV) (v : V), Rep K H p v → Rep K H' p v
  | .non, _, h => h
  | .bl _, _, h => h
  | .int _, _, h => h
  | .str _, _, h => h
  | .tup xs, _, ⟨a, vs, e, h, r⟩ => ⟨a, vs, e, s _ _ h, Reps.mono s xs vs r⟩
  | .lst xs, _, ⟨a, vs, e, h, r⟩ => ⟨a, vs, e, s _ _ h, Reps.mono s xs vs r⟩
  | .ins C fs, _, ⟨a, dx, gs, e, h, r⟩ => ⟨a, dx, gs, e, s _ _ h, RepF.mono s fs gs r⟩
  | .scr ns, _, ⟨a, e, h⟩ => ⟨a, e, s.seq h⟩
  | .exr _ _ _ fs, _, ⟨e, h⟩ => ⟨e, h.elim .inl fun ⟨dx, gs, e1, e2, r⟩ => .inr ⟨dx, gs, e1, s _ _ e2, RepF.mono s fs gs r⟩⟩
  | .dic ks, _, ⟨a, ws, e, h, r⟩ => ⟨a, ws, e, s _ _ h, RepK.mono s ks ws r⟩
  | .tun xs, _, ⟨a, vs, e, ⟨o, h, n⟩, r⟩ => ⟨a, vs, e, ⟨o, s _ _ h, n⟩, Reps.mono s xs vs r⟩
theorem Reps.mono (s : Same H H') : ∀ (p : List PV) (v : List V), Reps K H p v → Reps K H' p v
  | [], [], h => h
  | x :: xs, v :: vs, ⟨h1, h2⟩ => ⟨Rep.mono s x v h1, Reps.mono s xs vs h2⟩
theorem RepF.mono (s : Same H H') : ∀ (p : List (Str × PV)) (v : List (Str × V)), RepF K H p v → RepF K H' p v
  | [], [], h => h
  | (_, x) :: xs, (_, v) :: vs, ⟨h0, h1, h2⟩ => ⟨h0, Rep.mono s x v h1, RepF.mono s xs vs h2⟩
theorem RepK.mono (s : Same H H') : ∀ (p : List (L2.Key × PV)) (v : List (L2.Key × V)), RepK K H p v → RepK K H' p v
  | [], [], h => h
  | (_, x) :: xs, (_, v) :: vs, ⟨h0, h1, h2⟩ => ⟨h0, Rep.mono s x v h1, RepK.mono s xs vs h2⟩
end
theorem Reps.len : ∀ {xs : List PV} {vs : List V}, Reps K H xs vs → vs.length = xs.length
  | [], [], _ => rfl
  | _ :: _, _ :: _, ⟨_, h⟩ => by rw [List.length_cons, List.length_cons, Reps.len h]
theorem Reps.get {xs : List PV} {vs : List V} {j : Nat} {x : PV} (h : Reps K H xs vs) (e : xs[j]? = some x) : ∃ v, vs[j]? = some v ∧ Rep K H x v := by
  induction xs generalizing vs j with
  | nil => simp at e
  | cons y xs ih =>
    cases vs with
    | nil => exact False.elim h
    | cons w vs =>
      cases j with
      | zero => simp at e; subst e; exact ⟨_, rfl, h.1⟩
      | succ j =>
        obtain ⟨v, h1, h2⟩ := ih h.2 (by simpa using e)
        exact ⟨v, by simpa using h1, h2⟩
theorem Reps.getV {xs : List PV} {vs : List V} {j : Nat} {v : V} (h : Reps K H xs vs) (e : vs[j]? = some v) : ∃ x, xs[j]? = some x ∧ Rep K H x v := by
  induction xs generalizing vs j with
  | nil =>
    cases vs with
    | nil => simp at e
    | cons w vs => exact False.elim h
  | cons y xs ih =>
    cases vs with
    | nil => exact False.elim h
    | cons w vs =>
      cases j with
      | zero => simp at e; subst e; exact ⟨_, rfl, h.1⟩
      | succ j =>
        obtain ⟨v, h1, h2⟩ := ih h.2 (by simpa using e)
        exact ⟨v, by simpa using h1, h2⟩
theorem Reps.app : ∀ {xs ys : List PV} {vs ws : List V}, Reps K H xs vs → Reps K H ys ws → Reps K H (xs ++ ys) (vs ++ ws)
  | [], _, [], _, _, h => h
  | [], _, _ :: _, _, z, _ => False.elim z
  | _ :: _, _, [], _, z, _ => False.elim z
  | _ :: _, _, _ :: _, _, ⟨h1, h2⟩, h => ⟨h1, Reps.app h2 h⟩
theorem Reps.take : ∀ {xs : List PV} {vs : List V} (n : Nat), Reps K H xs vs → Reps K H (xs.take n) (vs.take n)
  | [], [], n, _ => by simp; trivial
  | [], _ :: _, _, h => False.elim h
  | _ :: _, [], _, h => False.elim h
  | _ :: _, _ :: _, 0, _ => trivial
  | _ :: _, _ :: _, n + 1, ⟨h1, h2⟩ => ⟨h1, Reps.take n h2⟩
theorem Reps.drop : ∀ {xs : List PV} {vs : List V} (n : Nat), Reps K H xs vs → Reps K H (xs.drop n) (vs.drop n)
  | [], [], n, _ => by simp; trivial
  | [], _ :: _, _, h => False.elim h
  | _ :: _, [], _, h => False.elim h
  | _ :: _, _ :: _, 0, h => h
  | _ :: _, _ :: _, n + 1, ⟨_, h2⟩ => Reps.drop n h2
theorem Reps.set : ∀ {xs : List PV} {vs : List V} {x : PV} {v : V} (j : Nat), Reps K H xs vs → Rep K H x v → Reps K H (xs.set j x) (vs.set j v)
  | [], [], _, _, _, _, _ => trivial
  | [], _ :: _, _, _, _, h, _ => False.elim h
  | _ :: _, [], _, _, _, h, _ => False.elim h
  | _ :: _, _ :: _, _, _, 0, ⟨_, h2⟩, h => ⟨h, h2⟩
  | _ :: _, _ :: _, _, _, j + 1, ⟨h1, h2⟩, h => ⟨h1, Reps.set j h2 h⟩
theorem Reps.rev : ∀ {xs : List PV} {vs : List V}, Reps K H xs vs → Reps K H xs.reverse vs.reverse
  | [], [], _ => trivial
  | [], _ :: _, h => False.elim h
  | _ :: _, [], h => False.elim h
  | _ :: _, _ :: _, ⟨h1, h2⟩ => by
    rw [List.reverse_cons, List.reverse_cons]
    exact Reps.app (Reps.rev h2) ⟨h1, trivial⟩
theorem Reps.erase : ∀ {xs : List PV} {vs : List V} (j : Nat), Reps K H xs vs → Reps K H (xs.eraseIdx j) (vs.eraseIdx j)
  | [], [], j, _ => trivial
  | [], _ :: _, _, h => False.elim h
  | _ :: _, [], _, h => False.elim h
  | _ :: _, _ :: _, 0, ⟨_, h2⟩ => h2
  | _ :: _, _ :: _, j + 1, ⟨h1, h2⟩ => ⟨h1, Reps.erase j h2⟩
theorem Reps.ints : ∀ {ns : List Int} {vs : List V}, Reps K H (ns.map PV.int) vs → vs = ns.map V.int
  | [], [], _ => rfl
  | [], _ :: _, h => False.elim h
  | _ :: _, [], h => False.elim h
  | n :: ns, v :: vs, h => by
    obtain ⟨h1, h2⟩ := h
    have h1 : v = V.int n := h1
    rw [List.map_cons, Reps.ints h2, h1]
theorem Reps.ofInts : ∀ (ns : List Int), Reps K H (ns.map PV.int) (ns.map V.int)
  | [] => trivial
  | _ :: ns => ⟨rfl, Reps.ofInts ns⟩
end

/-- what an expression comes to: a value; an own error of the class at C; neither (nothing is said) -/
inductive Rs (α : Type) where
  | ok (a : α) | ex (C : Addr) (fs : List (Str × PV)) | bad
def Rs.bind {α β : Type} : Rs α → (α → Rs β) → Rs β
  | .ok a, f => f a
  | .ex C fs, _ => .ex C fs
  | .bad, _ => .bad

/-- H0: what is told for good; H: what stands. Both only grew, by fresh objects -/
structure Gr (H0 H H0' H' : Hp) : Prop where
  a : Same H0 H0'
  b : Same H H'
  c : Same H0' H'
  d : ∀ a, H0' a ≠ none → H0 a ≠ none ∨ H a = none
theorem Gr.refl {H0 H : Hp} (s : Same H0 H) : Gr H0 H H0 H := ⟨fun _ _ h => h, fun _ _ h => h, s, fun _ h => .inl h⟩
theorem none_back {H H' : Hp} (s : Same H H') {a : Addr} (h : H' a = none) : H a = none := by
  cases e : H a with
  | none => rfl
  | some o => rw [s a o e] at h; cases h
theorem Gr.trans {H0 H H1 H' H2 H'' : Hp} (x : Gr H0 H H1 H') (y : Gr H1 H' H2 H'') : Gr H0 H H2 H'' :=
  ⟨x.a.trans y.a, x.b.trans y.b, y.c, fun a h => (y.d a h).elim (fun h => x.d a h) fun h => .inr (none_back x.b h)⟩
/-- a new object -/
theorem Gr.new {H0 H : Hp} (s : Same H0 H) {p : Addr} {o : HO} (hp : H p = none) : Gr H0 H (upd H0 p o) (upd H p o) := by
  have h0 : H0 p = none := none_back s hp
  refine ⟨same_new h0, same_new hp, fun b u e => ?_, fun a h => ?_⟩
  · by_cases hb : b = p
    · subst hb; rw [upd_same] at e ⊢; exact e
    · rw [upd_ne hb] at e ⊢; exact s b u e
  · by_cases ha : a = p
    · subst ha; exact .inr hp
    · rw [upd_ne ha] at h; exact .inl h
/-- a new object that is not told for good -/
theorem Gr.newO {H0 H : Hp} (s : Same H0 H) {p : Addr} {o : HO} (hp : H p = none) : Gr H0 H H0 (upd H p o) :=
  ⟨fun _ _ h => h, same_new hp, fun b u e => (same_new hp) b u (s b u e), fun _ h => .inl h⟩

/-- the slots of V stand for what Γ says -/
def Shr (K : PySem.W.Frag) (V : List Nat) (H0 : Hp) (Γ : Env) (σ : L2.St) : Prop := σ.length = Γ.length ∧ ∀ i ∈ V, ∀ p, Γ[i]? = some (some p) → ∃ v, σ[i]? = some (some v) ∧ Rep K H0 p v
theorem Shr.mono {K : PySem.W.Frag} {V : List Nat} {H0 H0' : Hp} {Γ : Env} {σ : L2.St} (h : Shr K V H0 Γ σ) (s : Same H0 H0') : Shr K V H0' Γ σ := ⟨h.1, fun i hi p e => by
  obtain ⟨v, h1, h2⟩ := h.2 i hi p e
  exact ⟨v, h1, h2.mono s⟩⟩

/-- an error's own fields -/
def RepX (K : PySem.W.Frag) (H0 H : Hp) (fs : List (Str × PV)) (d : Option Addr) : Prop := (fs = [] ∧ d = none) ∨ ∃ dx gs, d = some dx ∧ H dx = some (.xd gs) ∧ RepF K H0 fs gs ∧ fs ≠ []
/-- what is wanted behind a step: of a value, of an error -/
def Post {α : Type} (K : PySem.W.Frag) (W : WX) (σ : L2.St) (good : α → Hp → Hp → Prop) (H0 H : Hp) : Rs α → Prop
  | .ok a => ∀ H0' H', Gr H0 H H0' H' → good a H0' H'
  | .ex C fs => ∀ d H0' H', Gr H0 H H0' H' → RepX K H0' H' fs d → W (.ref C) d σ H'
  | .bad => False
/-- a new list, tuple, ..: its root stands outside of what is told for good -/
def Root (K : PySem.W.Frag) (H0 H : Hp) (a : Addr) : PV → Prop
  | .lst xs => ∃ vs, H a = some (.lst vs) ∧ Reps K H0 xs vs
  | .ins C fs => ∃ dx gs, H a = some (.ins C dx gs) ∧ RepF K H0 fs gs
  | .dic ks => ∃ ws, H a = some (.dK ws) ∧ RepK K H0 ks ws
  | _ => False
section
variable {α β : Type} {K : PySem.W.Frag} {W : WX} {σ : L2.St} {H0 H H0' H' : Hp} {good good' : α → Hp → Hp → Prop}
theorem Post.gr (g : Gr H0 H H0' H') : ∀ {r : Rs α}, Post K W σ good H0 H r → Post K W σ good H0' H' r
  | .ok _, h => fun a b g2 => h a b (g.trans g2)
  | .ex _ _, h => fun d a b g2 r => h d a b (g.trans g2) r
  | .bad, h => h
theorem Post.mono (m : ∀ a H0' H', Gr H0 H H0' H' → good a H0' H' → good' a H0' H') : ∀ {r : Rs α}, Post K W σ good H0 H r → Post K W σ good' H0 H r
  | .ok _, h => fun a b g => m _ a b g (h a b g)
  | .ex _ _, h => h
  | .bad, h => h
theorem Post.step {good : β → Hp → Hp → Prop} {k : α → Rs β} : ∀ {r : Rs α}, Post K W σ good H0 H (r.bind k) → Post K W σ (fun a H0' H' => Post K W σ good H0' H' (k a)) H0 H r
  | .ok _, h => fun _ _ g => Post.gr g h
  | .ex _ _, h => h
  | .bad, h => h
/-- a step that cannot fail -/
theorem Post.pure {a : α} (s : Same H0 H) (h : Post K W σ good H0 H (.ok a)) : good a H0 H := h _ _ (Gr.refl s)
end
/-- what is wanted of a value, of a list of values, of a test's answer, of a new root -/
def gE (K : PySem.W.Frag) (Q : VK) : PV → Hp → Hp → Prop := fun p H0 H => ∀ v, Rep K H0 p v → Q v H
def gA (K : PySem.W.Frag) (Q : List V → Hp → Prop) : List PV → Hp → Hp → Prop := fun p H0 H => ∀ v, Reps K H0 p v → Q v H
def gT (Q : Bool → Hp → Prop) : Bool → Hp → Hp → Prop := fun b _ H => Q b H
def gO (K : PySem.W.Frag) (Hs : Hp) (Q : VK) : PV → Hp → Hp → Prop := fun p H0 H => (scP p = true → ∀ v, Rep K H0 p v → Q v H) ∧ ∀ a, Hs a = none → H0 a = none → Root K H0 H a p → Q (.ref a) H
section
variable {K : PySem.W.Frag} {W : WX} {σ : L2.St} {H0 H H0' H' : Hp}
theorem pT {Q : Bool → Hp → Prop} {b : Bool} (s : Same H0 H) (h : Post K W σ (gT Q) H0 H (.ok b)) : Q b H := h _ _ (Gr.refl s)
theorem pV {Q : VK} {p : PV} {v : L2.V} (s : Same H0 H) (h : Post K W σ (gE K Q) H0 H (.ok p)) (r : Rep K H0 p v) : Q v H := h _ _ (Gr.refl s) v r
theorem pA {Q : List L2.V → Hp → Prop} {p : List PV} {v : List L2.V} (s : Same H0 H) (h : Post K W σ (gA K Q) H0 H (.ok p)) (r : Reps K H0 p v) : Q v H := h _ _ (Gr.refl s) v r
/-- a new root is told for good -/
theorem root_tell {a : Addr} {p : PV} (g : Gr H0 H H0' H') (n : H a = none) (n0 : H0' a = none) (r : Root K H0' H' a p) : ∃ H0'', Gr H0 H H0'' H' ∧ Rep K H0'' p (.ref a) := by
  have key : ∀ o, H' a = some o → Gr H0 H (upd H0' a o) H' ∧ Same H0' (upd H0' a o) := fun o e => by
    refine ⟨⟨g.a.trans (same_new n0), g.b, fun b u q => ?_, fun b q => ?_⟩, same_new n0⟩
    · by_cases hb : b = a
      · subst hb; rw [upd_same] at q; rw [e]; exact q
      · rw [upd_ne hb] at q; exact g.c b u q
    · by_cases hb : b = a
      · subst hb; exact .inr n
      · rw [upd_ne hb] at q; exact g.d b q
  cases p with
  | lst xs =>
    obtain ⟨vs, e, r⟩ := r
    obtain ⟨k1, k2⟩ := key _ e
    exact ⟨_, k1, a, vs, rfl, upd_same, r.mono k2⟩
  | ins C fs =>
    obtain ⟨dx, gs, e, r⟩ := r
    obtain ⟨k1, k2⟩ := key _ e
    exact ⟨_, k1, a, dx, gs, rfl, upd_same, r.mono k2⟩
  | dic ks =>
    obtain ⟨ws, e, r⟩ := r
    obtain ⟨k1, k2⟩ := key _ e
    exact ⟨_, k1, a, ws, rfl, upd_same, r.mono k2⟩
  | _ => exact False.elim r
end

/-! ### the judgements -/
def tOf (X : Cx) (e : Expr) : TE := fun σ H Q => ∀ pins s, Inv X pins σ H s → wpAny (model X.prog X.w) X.A (eval e X.env) (EP X pins σ Q) X.xe s
theorem pe_of {X : Cx} {e : Expr} : PE X e (tOf X e) := ⟨fun pins s σ H Q I h => h pins s I⟩
theorem PE.to {X : Cx} {e : Expr} {t : TE} (h : PE X e t) {σ : L2.St} {H : Hp} {Q : VK} (q : t σ H Q) : tOf X e σ H Q := fun pins s I => h.run pins s σ H Q I q
def ttOf (X : Cx) (e : Expr) : TT := fun σ H Q => ∀ pins s, Inv X pins σ H s → wpAny (model X.prog X.w) X.A (isTrue e X.env (eval e X.env)) (TP X pins σ Q) X.xe s
theorem pt_of {X : Cx} {e : Expr} : PT X e (ttOf X e) := ⟨fun pins s σ H Q I h => h pins s I⟩
theorem PT.to {X : Cx} {e : Expr} {t : TT} (h : PT X e t) {σ : L2.St} {H : Hp} {Q : Bool → Hp → Prop} (q : t σ H Q) : ttOf X e σ H Q := fun pins s I => h.run pins s σ H Q I q
/-- a test whatever its whole is -/
def twOf (X : Cx) (e : Expr) : TT := fun σ H Q => ∀ (whole : Sem Value) pins s, Inv X pins σ H s → wpAny (model X.prog X.w) X.A (isTrue e X.env whole) (TP X pins σ Q) X.xe s
theorem pw_of {X : Cx} {e : Expr} : PW X e (twOf X e) := ⟨fun whole pins s σ H Q I h => h whole pins s I⟩
theorem PW.to {X : Cx} {e : Expr} {t : TT} (h : PW X e t) {σ : L2.St} {H : Hp} {Q : Bool → Hp → Prop} (q : t σ H Q) : twOf X e σ H Q := fun whole pins s I => h.run whole pins s σ H Q I q
def taOf (X : Cx) (es : List Expr) : TA := fun σ H Q => ∀ pos pins s, Inv X pins σ H s → wpAny (model X.prog X.w) X.A (spliced (backTo pos (starEach es X.env))) (AP X pins σ Q) X.xe s
theorem pa_of {X : Cx} {es : List Expr} : PA X es (taOf X es) := ⟨fun pos pins s σ H Q I h => h pos pins s I⟩
theorem PA.to {X : Cx} {es : List Expr} {t : TA} (h : PA X es t) {σ : L2.St} {H : Hp} {Q : List V → Hp → Prop} (q : t σ H Q) : taOf X es σ H Q := fun pos pins s I => h.run pos pins s σ H Q I q
def tsOf (X : Cx) (st : Stmt) : TS := fun D σ H => ∀ pins s, Inv X pins σ H s → wpAny (model X.prog X.w) X.A (exec st X.env) (SP X pins D) X.xe s
theorem ps_of {X : Cx} {st : Stmt} : PS X st (tsOf X st) := ⟨fun pins s σ H D I h => h pins s I⟩
theorem PS.to {X : Cx} {st : Stmt} {t : TS} (h : PS X st t) {D : Ends} {σ : L2.St} {H : Hp} (q : t D σ H) : tsOf X st D σ H := fun pins s I => h.run pins s σ H D I q
def tssOf (X : Cx) (st : List Stmt) : TS := fun D σ H => ∀ pins s, Inv X pins σ H s → wpAny (model X.prog X.w) X.A (execs st X.env) (SP X pins D) X.xe s
theorem pss_of {X : Cx} {st : List Stmt} : PSs X st (tssOf X st) := ⟨fun pins s σ H D I h => h pins s I⟩
theorem PSs.to {X : Cx} {st : List Stmt} {t : TS} (h : PSs X st t) {D : Ends} {σ : L2.St} {H : Hp} (q : t D σ H) : tssOf X st D σ H := fun pins s I => h.run pins s σ H D I q

/-- in X, errors wished for by W, the expression comes to f of the slots V -/
def EX (X : Cx) (W : WX) (V : List Nat) (e : Expr) (f : Env → Rs PV) : Prop := ∀ Γ σ H0 H Q, Shr X.K V H0 Γ σ → Same H0 H → Post X.K W σ (gE X.K Q) H0 H (f Γ) → tOf X e σ H Q
/-- the same, to something new -/
def OX (X : Cx) (W : WX) (V : List Nat) (e : Expr) (f : Env → Rs PV) : Prop := ∀ Γ σ H0 H Q, Shr X.K V H0 Γ σ → Same H0 H → Post X.K W σ (gO X.K H Q) H0 H (f Γ) → tOf X e σ H Q
/-- the same of a reading -/
def OT (X : Cx) (W : WX) (V : List Nat) (t : TE) (f : Env → Rs PV) : Prop := ∀ Γ σ H0 H Q, Shr X.K V H0 Γ σ → Same H0 H → Post X.K W σ (gO X.K H Q) H0 H (f Γ) → t σ H Q
def TX (X : Cx) (W : WX) (V : List Nat) (e : Expr) (f : Env → Rs Bool) : Prop := ∀ Γ σ H0 H Q, Shr X.K V H0 Γ σ → Same H0 H → Post X.K W σ (gT Q) H0 H (f Γ) → ttOf X e σ H Q
def UX (X : Cx) (W : WX) (V : List Nat) (e : Expr) (f : Env → Rs Bool) : Prop := ∀ Γ σ H0 H Q, Shr X.K V H0 Γ σ → Same H0 H → Post X.K W σ (gT Q) H0 H (f Γ) → twOf X e σ H Q
def AX (X : Cx) (W : WX) (V : List Nat) (es : List Expr) (f : Env → Rs (List PV)) : Prop := ∀ Γ σ H0 H Q, Shr X.K V H0 Γ σ → Same H0 H → Post X.K W σ (gA X.K Q) H0 H (f Γ) → taOf X es σ H Q
section
variable {X : Cx} {W : WX} {V : List Nat} {e : Expr} {es : List Expr}
theorem OX.ex {f : Env → Rs PV} (h : OX X W V e f) : EX X W V e f := fun Γ σ H0 H Q sh sm q => by
  refine h Γ σ H0 H Q sh sm ?_
  cases hf : f Γ with
  | ok p =>
    rw [hf] at q
    intro H0' H' g
    refine ⟨fun _ v r => q _ _ g v r, fun a n n0 r => ?_⟩
    obtain ⟨H0'', g2, r2⟩ := root_tell g n n0 r
    exact q _ _ g2 _ r2
  | ex C fs => rw [hf] at q; exact q
  | bad => rw [hf] at q; exact q
end
end Lh.P
set_option Elab.async false
set_option linter.all false
set_option maxRecDepth 100000
set_option maxHeartbeats 4000000
/-! max(xs, default=d) of a list of ints. -/
namespace Lh
open PySem PySem.Spec PyProof.Rows L2
open PySem.W (AlikeAll max_list_default maxD_ints)
theorem reads_ints {h : Heap} : ∀ {vs : List Value} {ns : List Int}, IntsAre vs ns → ReadsAll h vs (ns.map PyData.int) []
  | _, _, .nil => .nil
  | _, _, .cons n t hr => .cons (as := []) (bs := []) (.int _ _) (reads_ints hr)
theorem alike_ints (ns : List Int) : AlikeAll (ns.map PyData.int) := by
  refine ⟨fun x hx y hy => ?_, fun x hx => ?_⟩
  · obtain ⟨a, _, rfl⟩ := List.mem_map.mp hx
    obtain ⟨b, _, rfl⟩ := List.mem_map.mp hy
    rfl
  · obtain ⟨a, _, rfl⟩ := List.mem_map.mp hx
    intro e
    cases e
theorem depth_ints : ∀ ns : List Int, PyData.depthAll (ns.map PyData.int) = 0
  | [] => rfl
  | a :: l => by
    show max (PyData.depth (.int a)) (PyData.depthAll (l.map PyData.int)) = 0
    rw [depth_ints l]
    rfl
theorem foldl_max : ∀ (ns : List Int) (n : Int), (ns.foldl max n ∈ n :: ns) ∧ ∀ y ∈ n :: ns, y ≤ ns.foldl max n
  | [], n => ⟨by simp, fun y hy => by simp at hy; simp [hy]⟩
  | a :: l, n => by
    obtain ⟨h1, h2⟩ := foldl_max l (max n a)
    rw [List.foldl_cons]
    refine ⟨?_, fun y hy => ?_⟩
    · rcases List.mem_cons.mp h1 with e | e
      · rw [e]
        by_cases q : n ≤ a
        · rw [Int.max_eq_right q]; simp
        · rw [Int.max_eq_left (by omega)]; simp
      · simp [e]
    · have h3 := h2 (max n a) List.mem_cons_self
      rcases List.mem_cons.mp hy with rfl | hy
      · omega
      · rcases List.mem_cons.mp hy with rfl | hy
        · omega
        · exact h2 y (List.mem_cons_of_mem _ hy)
def rMaxD (K : PySem.W.Frag) (vs zs : List V) (H : Hp) (Q : VK) : Prop := ∃ (a : Addr) (ns : List Int) (d : V), vs = [V.ref a] ∧ zs = [d] ∧ SqL K H a (ns.map V.int) ∧ (ns = [] → Q d H) ∧ ∀ m, m ∈ ns → (∀ y, y ∈ ns → y ≤ m) → Q (.int m) H
section
variable {X : Cx} {pins : List (Addr × Obj)} {σ : L2.St} {H : Hp} {s : Shared}
theorem run_maxD (hc : X.calm = true) (hu : X.A.units + 1 < cLine) {vs zs : List V} {us ws : List Value} {Q : VK} (I : Inv X pins σ H s) (r : Vals vs us) (rz : Vals zs ws) (h : rMaxD X.K vs zs H Q) :
    wpAny (model X.prog X.w) X.A (call (.builtin "max") us ([("default" : Str)].zip ws)) (EP X pins σ Q) X.xe s := by
  obtain ⟨a, ns, d, rfl, rfl, hs, q0, q1⟩ := h
  obtain ⟨its, rv, hl, _⟩ := I.list hs
  rw [Vals.ref1 r]
  obtain ⟨u, rfl, ru⟩ := vals1 rz
  have hi : IntsAre its ns := rv.ints
  refine max_list_default (xs := ns.map PyData.int) (as := []) (I.ok.hd hc) hl.isList (reads_ints (by simpa using hi)) (alike_ints ns) (by rw [depth_ints]; exact hu) (fun e h' tk k => ?_) fun y ys i v h' tk bs e hv rd k => ?_
  · have e0 : ns = [] := by simpa using e
    exact ⟨d, H, I.kept k, ru, q0 e0⟩
  · cases ns with
    | nil => simp at e
    | cons n l =>
      simp only [List.map_cons, List.cons.injEq] at e
      obtain ⟨rfl, rfl⟩ := e
      rw [maxD_ints] at rd
      cases rd with
      | int m t =>
        have f := foldl_max l n
        exact ⟨.int (l.foldl max n), H, I.kept k, ⟨_, rfl⟩, q1 _ f.1 f.2⟩
def tMaxD (K : PySem.W.Frag) (t tk : TA) : TE := fun σ H Q => t σ H fun vs H1 => tk σ H1 fun zs H2 => rMaxD K vs zs H2 Q
theorem pe_maxD {e : Expr} {es : List Expr} {kws : List Keyword} {t tk : TA} {p pos : Pos} (hc : X.calm = true) (hu : X.A.units + 1 < cLine) (hg : Gl X "max") (hm : X.mg "max" = none) (ha : PA X (e :: es) t) (hkw : PK X kws tk) (hall : (backToKw pos (keywordEach kws X.env)).all (·.1.isSome) = true := by rfl) (hks : (backToKw pos (keywordEach kws X.env)).filterMap (·.1) = [("default" : Str)] := by rfl)
    (hn : (backToKw pos (keywordEach kws X.env)).any (·.1.isNone) = false := by rfl)
    (he : backTo pos (starEach (e :: es) X.env) = (false, eval e X.env) :: backTo pos (starEach es X.env) := by rfl) (hpl : (backTo pos (starEach (e :: es) X.env)).any (·.1) = false := by rfl) : PE X (.Call (.Name "max" p) (e :: es) kws pos) (tMaxD X.K t tk) := by
  refine ⟨fun pins s σ H Q I h => ?_⟩
  refine wpAny_Call_Name_kw (ld_blt I hg hm (u := .builtin "max") (by decide +kernel) ?_ (by decide) (by decide))
  refine callWith_kw (thn (ha.run pos pins s σ H _ I h) fun us s1 ⟨vs, H1, I1, r, q⟩ => ?_) he hpl hall hn
  refine thn (hkw.run pos pins s1 σ H1 _ I1 q) fun ws s2 ⟨zs, H2, I2, rz, q2⟩ => ?_
  rw [hks]
  exact run_maxD hc hu I2 r rz q2
end
end Lh
set_option Elab.async false
set_option linter.all false
set_option maxRecDepth 100000
set_option maxHeartbeats 4000000
/-! Deep comparisons: lists of ints, tuples. -/
namespace Lh
open PySem PySem.Spec PyProof.Rows L2 SX
section
variable {K : PySem.W.Frag} {H : Hp}
theorem dpAll_ints : ∀ xs : List Int, DpAll K H (xs.map V.int) (xs.map PyData.int)
  | [] => .nil
  | x :: l => .cons (.int x) (dpAll_ints l)
theorem dp_ints {a : Addr} {xs : List Int} (h : H a = some (.lst (xs.map V.int))) : Dp K H (.ref a) (.list (xs.map PyData.int)) := .lst (SqL.of h) (dpAll_ints xs)
theorem canLay_ints : ∀ xs : List Int, PyData.canLayAll0 (xs.map PyData.int) = true
  | [] => rfl
  | x :: l => by
    show (PyData.canLay0 (.int x) && PyData.canLayAll0 (l.map PyData.int)) = true
    rw [canLay_ints l]
    rfl
theorem shaped_ints (xs : List Int) : SeqAt.shaped (.list (xs.map PyData.int)) = true := by
  unfold SeqAt.shaped
  have h1 : PyData.canLay0 (.list (xs.map PyData.int)) = true := canLay_ints xs
  have h2 : PyData.depth (.list (xs.map PyData.int)) = 1 := by
    show PyData.depthAll (xs.map PyData.int) + 1 = 1
    rw [depth_ints]
  rw [h1, h2]
  rfl
theorem shaped_pair (z : Int) (xs : List Int) : SeqAt.shaped (.tuple [.int z, .list (xs.map PyData.int)]) = true := by
  unfold SeqAt.shaped
  have h1 : PyData.canLay0 (.tuple [.int z, .list (xs.map PyData.int)]) = true := by
    show (PyData.canLay0 (.int z) && (PyData.canLayAll0 (xs.map PyData.int) && true)) = true
    rw [canLay_ints xs]
    rfl
  have h2 : PyData.depth (.tuple [.int z, .list (xs.map PyData.int)]) = 2 := by
    show max 0 (max (PyData.depthAll (xs.map PyData.int) + 1) 0) + 1 = 2
    rw [depth_ints]
    rfl
  rw [h1, h2]
  rfl
theorem eqv_shaped {d : PyData} (h : SeqAt.shaped d = true) : PyData.eqv d d = true := SeqAt.eqv_refl d (SeqAt.canLay_of_shaped h)
theorem dp_door {a : Addr} {x y : Int} {z : Str} (h : H a = some (.tup [.int x, .int y, .str z])) : Dp K H (.ref a) (.tuple [.int x, .int y, .str z]) := .tup (SqT.of h) (.cons (.int x) (.cons (.int y) (.cons (.str z) .nil)))
theorem shaped_door (x y : Int) {c : List Nat} (hc : ∀ n ∈ c, n < 1114112) : SeqAt.shaped (.tuple [.int x, .int y, .str (S c)]) = true := by
  unfold SeqAt.shaped
  have h0 : PyData.strOk (S c) = true := by
    unfold PyData.strOk
    rw [← Array.all_toList]
    have e : (S c).cps.toList = c := codes c
    rw [e, List.all_eq_true]
    intro n hn
    exact decide_eq_true (hc n hn)
  have h1 : PyData.canLay0 (.tuple [.int x, .int y, .str (S c)]) = true := by
    show (PyData.canLay0 (.int x) && (PyData.canLay0 (.int y) && (PyData.strOk (S c) && true))) = true
    rw [h0]
    rfl
  have h2 : PyData.depth (.tuple [.int x, .int y, .str (S c)]) = 1 := rfl
  rw [h1, h2]
  rfl
end
end Lh
set_option Elab.async false
set_option linter.all false
set_option maxRecDepth 100000
set_option maxHeartbeats 4000000
/-! str.replace of written texts, behind a statement x = e[k]; what 'BB' -> 'BR' does to the letters. -/
namespace Lh
open PySem PySem.Spec PyProof.Rows L2
section
variable {X : Cx} {rest : List Stmt} {st : Stmt} {t u : TS}
/-- x = a[k], k written: behind it a token is out -/
theorem pss_ixG {i : Nat} {x : Str} {a : Expr} {ta : TE} {r : R2} {k : Int} {j : Nat} {cp p2 pos' pos : Pos} (hN : X.N.Nodup) (hi : X.N[i]? = some x) (hx : Loc X.env.scope x) (hr : IxR X r) (ha : PE X a ta) (h2 : PSsT X rest u) (hsx : PlainIx (.Constant (.int k) j cp))
    (hs : swapsWith (.Subscript a (.Constant (.int k) j cp) p2) (some (.Name x pos')) pos.line X.env = pure false := by rfl) (hf : X.fn x = true ∨ X.env.scope.names.lookup x = some .local := by first | exact .inl rfl | exact .inr rfl | assumption) :
    PSs X (.Assign [.Name x pos'] (.Subscript a (.Constant (.int k) j cp) p2) pos :: rest) (tSeq (tAsg (tOp r ta (tC (.int k))) (gName i)) u) := by
  refine ⟨fun pins s σ H D I h => ?_⟩
  refine wpAny_execs_cons (wpAny_Assign_Name (Subscript_ (thn (ha.run pins s σ H _ I h) fun v s1 ⟨y, H1, I1, r1, q1⟩ => wpAny_Constant_int ?_)) hs)
  refine wpAny_mono (PySem.wpAny_toks (hr a (.Constant (.int k) j cp) pins { s1 with toks := s1.toks + 1 } σ H1 y (.int k) v (.int k s1.toks) _ (I1.tok _) r1 ⟨_, rfl⟩ q1 (hsx _ _))) (fun w s2 q => ?_) fun _ _ z => z.2
  obtain ⟨hk, z, H2, I2, r2, q2⟩ := q
  have hk1 : s1.toks + 1 ≤ s2.toks := hk
  refine wpAny_mono (PySem.wpAny_toks (store_ok (Q := fun _ s3 => Inv X pins (σ.set i (some z)) H2 s3) I2 hN hi hx r2 (fun _ I3 => I3) hf)) (fun _ s3 q3 => ?_) fun _ _ z => z.2
  have hk2 : s2.toks ≤ s3.toks := q3.1
  exact h2 pins s3 _ H2 D (by omega) q3.2 q2
theorem psst_cut (h1 : PST X st t) (h2 : PSsT X rest u) : PSsT X (st :: rest) (C8.tCut t u) := by
  intro pins s σ H D h0 I h
  obtain ⟨Mid, hm, hu⟩ := h
  refine wpAny_execs_cons (wpAny_mono (PySem.wpAny_toks (h1 pins s σ H { D with nx := Mid } h0 I hm)) (fun f s1 q => ?_) fun _ _ z => z.2)
  obtain ⟨hk, q⟩ := q
  cases f with
  | next =>
    obtain ⟨σ', H', I', q⟩ := q
    exact h2 pins s1 σ' H' D (Nat.le_trans h0 hk) I' (hu σ' H' q)
  | ret v => exact q
  | brk => exact q
  | cont => exact q
theorem pst_set {i : Nat} {x : Str} {e : Expr} {te : TE} {pos pos' : Pos} (hN : X.N.Nodup) (hi : X.N[i]? = some x) (hx : Loc X.env.scope x) (he : PET X e te) (hs : swapsWith e (some (.Name x pos')) pos.line X.env = pure false := by rfl)
    (hf : X.fn x = true ∨ X.env.scope.names.lookup x = some .local := by first | exact .inl rfl | exact .inr rfl | assumption) : PST X (.Assign [.Name x pos'] e pos) (tAsg te (gName i)) := by
  intro pins s σ H D h0 I h
  refine wpAny_Assign_Name (thn (he pins s σ H _ h0 I h) fun v s1 ⟨y, H1, I1, r1, q1⟩ => ?_) hs
  exact store_ok I1 hN hi hx r1 (fun s2 I2 => ⟨_, H1, I2, q1⟩) hf
end
open SX in
theorem repl_ok : ∀ (n : Nat) (l : List Nat), l.length ≤ n → (PySem.StrLaws.replL [66, 66] [66, 82] l).length = l.length ∧ (∀ x ∈ PySem.StrLaws.replL [66, 66] [66, 82] l, x = 82 ∨ x ∈ l) ∧ (82 ∈ l → 82 ∈ PySem.StrLaws.replL [66, 66] [66, 82] l) ∧ (66 ∈ l → 66 ∈ PySem.StrLaws.replL [66, 66] [66, 82] l) := by
  intro n
  induction n with
  | zero =>
    intro l h
    have e : l = [] := List.length_eq_zero_iff.mp (by omega)
    subst e
    rw [PySem.StrLaws.replL_nil]
    simp
  | succ n ih =>
    intro l h
    cases l with
    | nil =>
      rw [PySem.StrLaws.replL_nil]
      simp
    | cons c r =>
      by_cases q : (c :: r).take ([66, 66] : List Nat).length = [66, 66]
      · rw [PySem.StrLaws.replL_hit (by simp) q]
        cases r with
        | nil => simp at q
        | cons d r =>
          simp at q
          obtain ⟨rfl, rfl⟩ := q
          obtain ⟨h1, h2, h3, h4⟩ := ih r (by simp at h; omega)
          have e : ([66, 66] : List Nat).length = 2 := rfl
          rw [e]
          show ([66, 82] ++ PySem.StrLaws.replL [66, 66] [66, 82] r).length = (66 :: 66 :: r).length ∧ _
          refine ⟨by simp [h1], fun x hx => ?_, fun _ => by simp, fun _ => by simp⟩
          rcases List.mem_append.mp hx with hx | hx
          · simp at hx
            rcases hx with rfl | rfl <;> simp
          · rcases h2 x hx with rfl | hx
            · exact .inl rfl
            · exact .inr (by simp [hx])
      · rw [PySem.StrLaws.replL_miss q]
        obtain ⟨h1, h2, h3, h4⟩ := ih r (by simp at h; omega)
        refine ⟨by simp [h1], fun x hx => ?_, fun hx => ?_, fun hx => ?_⟩
        · rcases List.mem_cons.mp hx with rfl | hx
          · exact .inr (by simp)
          · rcases h2 x hx with rfl | hx
            · exact .inl rfl
            · exact .inr (by simp [hx])
        · rcases List.mem_cons.mp hx with rfl | hx
          · simp
          · exact List.mem_cons_of_mem _ (h3 hx)
        · rcases List.mem_cons.mp hx with rfl | hx
          · simp
          · exact List.mem_cons_of_mem _ (h4 hx)
section
open SX
def replC (c : List Nat) : List Nat := PySem.StrLaws.replL [66, 66] [66, 82] c
theorem repl_S (c : List Nat) : Txt.replace (S c) (Str.ofString "BB") (Str.ofString "BR") = S (replC c) := by
  have e1 : Str.ofString "BB" = S [66, 66] := by decide +kernel
  have e2 : Str.ofString "BR" = S [66, 82] := by decide +kernel
  rw [e1, e2]
  have h := PySem.StrLaws.replace_list (x := S c) (y := S [66, 66]) (z := S [66, 82]) (by decide)
  rw [codes, codes, codes] at h
  have h2 : (Txt.replace (S c) (S [66, 66]) (S [66, 82])).cps = (replC c).toArray := Array.toList_inj.mp (by rw [h]; rfl)
  calc Txt.replace (S c) (S [66, 66]) (S [66, 82]) = ⟨(Txt.replace (S c) (S [66, 66]) (S [66, 82])).cps⟩ := rfl
    _ = S (replC c) := by rw [h2]
theorem replC_ok {c : List Nat} (h : CycOk [82, 66] c) : CycOk [82, 66] (replC c) ∧ (replC c).length = c.length := by
  obtain ⟨h1, h2, h3, h4⟩ := repl_ok c.length c (Nat.le_refl _)
  refine ⟨⟨fun x hx => ?_, fun x hx => ?_⟩, h1⟩
  · rcases h2 x hx with rfl | hx
    · simp
    · exact h.1 x hx
  · simp at hx
    rcases hx with rfl | rfl
    · exact h3 (h.2 82 (by simp))
    · exact h4 (h.2 66 (by simp))
theorem cyc_more {g c : List Nat} {x y : Nat} (h : CycOk g c) (hx : x ∈ g) (hy : y ∈ g) : CycOk g (c ++ [x] ++ [y]) := by
  refine ⟨fun z hz => ?_, fun z hz => ?_⟩
  · simp at hz
    rcases hz with hz | rfl | rfl
    · exact h.1 z hz
    · exact hx
    · exact hy
  · have := h.2 z hz
    simp [this]
theorem cyc_front {g c : List Nat} {x : Nat} (h : CycOk g c) (hx : x ∈ g) : CycOk g ([x] ++ c) := by
  refine ⟨fun z hz => ?_, fun z hz => ?_⟩
  · simp at hz
    rcases hz with rfl | hz
    · exact hx
    · exact h.1 z hz
  · have := h.2 z hz
    simp [this]
theorem cyc_last {c : List Nat} (h : CycOk [82, 66] c) (h0 : c[0]? = some 66) : CycOk [82, 66] (c.dropLast ++ [82]) := by
  refine ⟨fun z hz => ?_, fun z hz => ?_⟩
  · simp only [List.mem_append, List.mem_singleton] at hz
    rcases hz with hz | rfl
    · exact h.1 z (List.dropLast_subset c hz)
    · simp
  · simp at hz
    rcases hz with rfl | rfl
    · simp
    · cases c with
      | nil => simp at h0
      | cons a r =>
        simp at h0
        subst h0
        cases r with
        | nil =>
          have := h.2 82 (by simp)
          simp at this
        | cons b r => simp
theorem cut_last {c : List Nat} : cutS (S c) none (some (-1)) = S c.dropLast := by
  unfold cutS
  have e : HT.sIx (S c).length (S c).length (some (-1)) = c.length - 1 := by
    rw [S_len]
    unfold HT.sIx
    show (if (-1 : Int) < 0 then ((-1 : Int) + (c.length : Int)).toNat else _) = _
    rw [if_pos (by decide)]
    omega
  rw [HT.sIx_none, e, codes, List.drop_zero, Nat.sub_zero, List.dropLast_eq_take]
end
end Lh
set_option Elab.async false
set_option linter.all false
set_option maxRecDepth 100000
set_option maxHeartbeats 4000000
/-! The set of a text's signs. -/
namespace LhS
open PySem PyProof.Rows
/-- S holds what f gives below i, m of them -/
def Col (f : Nat → Str) (i : Nat) (S : Str → Bool) (m : Nat) : Prop := ∃ l : List Str, l.Nodup ∧ l.length = m ∧ m ≤ i ∧ (∀ k, S k = true ↔ k ∈ l) ∧ (∀ k, k ∈ l ↔ ∃ j, j < i ∧ f j = k)
theorem Col.zero (f : Nat → Str) : Col f 0 (fun _ => false) 0 := ⟨[], List.nodup_nil, rfl, Nat.zero_le _, fun k => by simp, fun k => by simp⟩
theorem Col.succ {f : Nat → Str} {i m : Nat} {S : Str → Bool} (c : Col f i S m) : Col f (i + 1) (fun k => S k || decide (k = f i)) (if S (f i) = true then m else m + 1) := by
  obtain ⟨l, nd, hl, hle, hS, hm⟩ := c
  by_cases e : S (f i) = true
  · have hin := (hS _).mp e
    refine ⟨l, nd, by rw [if_pos e]; exact hl, by rw [if_pos e]; omega, fun k => ?_, fun k => ?_⟩
    · rw [Bool.or_eq_true, hS, decide_eq_true_eq]
      exact ⟨fun q => q.elim id fun q => q ▸ hin, .inl⟩
    · rw [hm]
      constructor
      · rintro ⟨j, hj, q⟩
        exact ⟨j, by omega, q⟩
      · rintro ⟨j, hj, q⟩
        by_cases hji : j = i
        · subst hji
          exact (hm k).mp (q ▸ hin)
        · exact ⟨j, by omega, q⟩
  · have hout : f i ∉ l := fun q => e ((hS _).mpr q)
    refine ⟨f i :: l, List.nodup_cons.mpr ⟨hout, nd⟩, by rw [if_neg e]; simp [hl], by rw [if_neg e]; omega, fun k => ?_, fun k => ?_⟩
    · rw [Bool.or_eq_true, hS, decide_eq_true_eq, List.mem_cons]
      exact ⟨Or.symm, Or.symm⟩
    · rw [List.mem_cons, hm]
      constructor
      · rintro (q | ⟨j, hj, q⟩)
        · exact ⟨i, by omega, q.symm⟩
        · exact ⟨j, by omega, q⟩
      · rintro ⟨j, hj, q⟩
        by_cases hji : j = i
        · subst hji
          exact .inl q.symm
        · exact .inr ⟨j, by omega, q⟩
theorem Col.le {f : Nat → Str} {i m : Nat} {S : Str → Bool} (c : Col f i S m) : m ≤ i := by
  obtain ⟨l, -, -, hle, -⟩ := c
  exact hle
theorem keyStr (prog : Program) (w : World) (k : Str) (u : Tok) : (strKind prog w).is k (.str k u) = true := by
  show Value.isStrOf k (.str k u) = true
  simp [Value.isStrOf]
section
variable {prog : Program} {w : World} {A : Around} {R : Result → Shared → Prop} {it : Addr} {fp wr : List Addr} {G : Array GenState → Array GenState → Prop} {n : Nat} {P : Nat → Value → Prop} {St : Nat → Shared → Prop}
theorem fill (W : WalksS prog w A.in1 it fp wr G n P St) (a : Addr) (hf : a ∉ fp) (f : Nat → Str) (hv : ∀ i v, P i v → ∃ t, v = .str (f i) t) (hb : n + 1 < scanBound) : ∀ (k i : Nat) (s : Shared) (S : Str → Bool) (m : Nat), n - i = k → i ≤ n → St i s → s.heap.SetOf (strKind prog w) a S m → Col f i S m →
    (∀ s' S' m', Moved (a :: wr) G s s' → s'.heap.SetOf (strKind prog w) a S' m' → Col f n S' m' → R (.ok (.ret .none)) s') → codeAny (model prog w) A (.builtin "set.update.loop" ⟨[.ref a, .ref it], []⟩) R s := by
  have hw : a ∉ wr := fun z => hf (W.sub _ z)
  have more : ∀ b ∈ wr, b ∈ a :: wr := fun b z => List.mem_cons_of_mem _ z
  intro k
  induction k with
  | zero =>
    intro i s S m hk hi st hS c kR
    obtain rfl : i = n := by omega
    refine codeAny_builtin F.entry_set_update_loop (by
      rw [Around.under_plainId F.plain_set_update_loop _]
      show wpAny _ A.in1 (pyNext (.ref it) >>= _) _ _ s
      refine wpAny_bind (W.done s _ _ st fun s' mv => ?_)
      obtain ⟨o, es, ep, t, ho, r⟩ := hS
      exact wpAny_pure (kR s' S m (mv.mono more) ⟨o, es, ep, t, mv.heap a _ hw ho, r⟩ c))
  | succ k ih =>
    intro i s S m hk hi st hS c kR
    have lt : i < n := by omega
    refine codeAny_builtin F.entry_set_update_loop ?_
    rw [Around.under_plainId F.plain_set_update_loop _]
    show wpAny _ A.in1 (pyNext (.ref it) >>= _) _ _ s
    refine wpAny_bind (W.item i s _ _ lt st fun v s' hP st' mv => ?_)
    obtain ⟨t, rfl⟩ := hv i v hP
    obtain ⟨o, es, ep, tb, ho, r⟩ := hS
    have hS1 : s'.heap.SetOf (strKind prog w) a S m := ⟨o, es, ep, tb, mv.heap a _ hw ho, r⟩
    show wpAny _ A.in1 (holding [Value.str (f i) t] (setAdd a (.str (f i) t)) >>= _) _ _ s'
    refine wpAny_bind (wpAny_holding ?_)
    unfold setAdd
    refine wpAny_holding (wpAny_bind ((strKind prog w).pyHash (k := f i) (keyStr prog w _ _) ?_))
    refine wpAny_setAddHashed_of (knd := strKind prog w) (s := { s' with toks := s'.toks + 1 }) (keyStr prog w _ _) rfl hS1 (by have := c.le; omega) fun h' sb hS2 => ?_
    refine wpAny_pure ⟨plainId_quiet F.plain_set_update_loop _, ih (i + 1) _ _ _ (by omega) lt (W.frame _ s' _ _ st' (Nat.le_succ _) fun b z o e => ?_) hS2 c.succ fun s'' S' m' mv2 hS3 c3 => kR s'' S' m' ?_ hS3 c3⟩
    · rw [sb.2 b (fun q : b = a => hf (by rw [← q]; exact z))]
      exact e
    · refine Moved.trans W.gtrans ((mv.mono more).then_heap (Nat.le_succ _) fun b o z e => ?_) mv2
      rw [sb.2 b (fun q : b = a => z (by rw [q]; exact List.mem_cons_self))]
      exact e
end
end LhS
set_option Elab.async false
set_option linter.all false
set_option maxRecDepth 100000
set_option maxHeartbeats 8000000
namespace LhS
open PySem PyProof.Rows
def sgn (x : Str) (i : Nat) : Str := ⟨#[x.cps.getD i 0]⟩
theorem sgn_at {x : Str} {i : Nat} {v : Value} (h : SignAt x i v) : ∃ t, v = .str (sgn x i) t := by
  obtain ⟨c, u, hc, rfl⟩ := h
  refine ⟨u, ?_⟩
  unfold sgn
  rw [Array.getD_eq_getD_getElem?, hc]
  rfl
theorem sub_txt_set : isSubtype (.type "str") (.type "set") = pure false := by
  rw [isSubtype_type]
  kernel_rfl
theorem sub_txt_froz : isSubtype (.type "str") (.type "frozenset") = pure false := by
  rw [isSubtype_type]
  kernel_rfl
abbrev setObj0 (led : Bool) : Obj := { cls := .type "set", dict := none, data := .set #[] 0 (.fresh 0 0 led) }
section
variable {prog : Program} {w : World} {A : Around} {E : Value → Shared → Prop} {s : Shared}
theorem mk_set {x : Str} {u : Tok} {Q : Value → Shared → Prop} (hh : A.handled = none) (hb : x.cps.size + 1 < scanBound)
    (kQ : ∀ (h' : Heap) (tk : Nat) (S : Str → Bool) (m : Nat), h'.SetOf (strKind prog w) s.heap.objs.size S m → Col (sgn x) x.cps.size S m → (∀ b o, b < s.heap.objs.size → s.heap.get? b = some o → h'.get? b = some o) → Q (.ref s.heap.objs.size) { s with heap := h', toks := tk }) :
    wpAny (model prog w) A (call (.type "set") [.str x u]) Q E s := by
  obtain ⟨c, tl, hmro⟩ := F.called_set.mro
  have hmade := F.called_set.made
  have hsub := F.called_set.sub
  refine wpAny_call (codeAny_of_tree ?_)
  show wpAny _ _ (callAny (.type "set") _) _ _ _
  refine wpAny_pure ⟨Code.quiet_builtin _ (by decide +kernel), codeAny_builtin F.entry_type_call ?_⟩
  rw [Around.under_plain (weight_type_call_type "set" [.str x u] []) rfl]
  have hnT := F.called_set.notType
  have hcC := F.called_set.canCreate
  have hcall := F.typeCall_set_1 (.str x u)
  repeat (any_goals (first | assumption | wp_step))
  refine codeAny_mono (code_set_new_1 (.str x u) (E := E) (Q₁ := fun obj s1 => ∃ led : Bool, obj = .ref s.heap.objs.size ∧ s1 = { s with heap := s.heap.push (setObj0 led) }) fun led => ⟨led, rfl, rfl⟩) fun r s1 hr => ?_
  cases r with
  | error e => exact hr
  | ok fl =>
    cases fl with
    | ret obj =>
      obtain ⟨led, rfl, rfl⟩ := hr
      have hS := Heap.get?_push_size (o := setObj0 led) s.heap rfl
      have hT : Shared.TypeIs { s with heap := s.heap.push (setObj0 led) } (.ref s.heap.objs.size) "set" := ⟨_, hS, rfl⟩
      have hlook := F.called_set.init.lookup
      have hbind := F.called_set.init.bind (.ref s.heap.objs.size)
      repeat (any_goals (first | assumption | wp_step))
      refine codeAny_mono (codeAny_call_builtin (R := wants (fun r s2 => r = .none ∧ ∃ (h' : Heap) (tk : Nat) (S : Str → Bool) (m : Nat), s2 = { s with heap := h', toks := tk } ∧ h'.SetOf (strKind prog w) s.heap.objs.size S m ∧ Col (sgn x) x.cps.size S m ∧ (∀ b o, b < s.heap.objs.size → s.heap.get? b = some o → h'.get? b = some o)) E) F.called_set.init.plain F.entry_set_init (check_set_init_1 hT ?_)) fun r2 s2 hr2 => ?_
      · have n1 := sub_txt_set
        have n2 := sub_txt_froz
        have n3 : (Value.type "str" == Value.type "dict") = false := by decide
        unfold Builtin.«set.__init__» noKeywords Builtin.Frozenset.updateFrom
        generalize hPI : pyIter = PI
        wp_walk
        subst hPI
        refine wpAny_pyIter_str fun o St W st0 => ?_
        refine wpAny_bind (wpAny_runValue ?_)
        have hsz : (s.heap.push (setObj0 led)).objs.size = s.heap.objs.size + 1 := Heap.size_push _ _
        have hne : s.heap.objs.size ∉ [(s.heap.push (setObj0 led)).objs.size] := by
          rw [hsz, List.mem_singleton]
          exact Nat.ne_of_lt (Nat.lt_succ_self _)
        have hS0 : ((s.heap.push (setObj0 led)).push o).get? s.heap.objs.size = some (setObj0 led) := Heap.get?_push_of_some _ hS
        refine fill (W _ (by simp [hh])).toS s.heap.objs.size hne (sgn x) (fun i v q => sgn_at q) hb x.cps.size 0 _ (fun _ => false) 0 rfl (Nat.zero_le _) st0
          (PyProof.Rows.SetOf_congr ((PyProof.Rows.setObjOf_fresh (knd := strKind prog w) led).setOf hS0 (by unfold scanBound; omega)) (fun _ => rfl) rfl) (Col.zero _) fun s' S m mv hS' cl => ?_
        obtain ⟨h', g', d', tk', os'⟩ := s'
        obtain rfl : g' = s.gens := mv.gens
        obtain rfl : d' = s.drawn := mv.drawn
        obtain rfl : os' = s.os := mv.os
        refine wpAny_pure (wpAny_pure ⟨rfl, h', tk', S, m, rfl, hS', cl, fun b u hb e => ?_⟩)
        refine mv.heap b u ?_ (Heap.get?_push_of_some _ (Heap.get?_push_of_some _ e))
        rw [hsz]
        simp only [List.mem_cons, List.not_mem_nil, or_false, not_or]
        exact ⟨Nat.ne_of_lt hb, Nat.ne_of_lt (Nat.lt_succ_of_lt hb)⟩
      · cases r2 with
        | error e => exact hr2
        | ok fl2 =>
          cases fl2 with
          | ret r =>
            obtain ⟨rfl, h', tk, S, m, rfl, q1, q2, q3⟩ := hr2
            repeat (any_goals (first | assumption | wp_step))
            exact kQ _ _ S m q1 q2 q3
          | _ => exact hr2.elim
    | _ => exact hr.elim
end
end LhS
set_option Elab.async false
set_option linter.all false
set_option maxRecDepth 100000
set_option maxHeartbeats 8000000
namespace LhS
open PySem PyProof.Rows
section
variable {prog : Program} {w : World} {A : Around} {E : Value → Shared → Prop} {s : Shared}
theorem txt_of {k : Str} {x : Value} (hk : (PySem.strKind prog w).is k x = true) : ∃ u, x = .str k u := by
  have h : Value.isStrOf k x = true := hk
  cases x <;> first | (simp [Value.isStrOf] at h; done) | skip
  rename_i y u
  refine ⟨u, ?_⟩
  have : y = k := by simpa [Value.isStrOf] using h
  rw [this]
theorem walkUnseen_txt {a b : Addr} {oa ob : Obj} {ea eb : Array (Int × Value)} {pa pb : Nat} {ta tb : SetTable} (ha : s.heap.get? a = some oa) (da : oa.data = .set ea pa ta) (fa : ta.fits ea.size = true) (la : ElemsOf (PySem.strKind prog w) ea.toList)
    (hb : s.heap.get? b = some ob) (db : ob.data = .set eb pb tb) (fb : tb.fits eb.size = true) (lb : ElemsOf (PySem.strKind prog w) eb.toList) {Q : List (Int × Value) → Shared → Prop} (h : Q ea.toList s) :
    wpAny (model prog w) A (Builtin.Frozenset.walkUnseen a b) Q E s := by
  unfold Builtin.Frozenset.walkUnseen
  refine wpAny_bind (wpAny_setEntries_of ha da fa ?_)
  refine wpAny_bind (wpAny_setEntries_of hb db fb ?_)
  have all : ∀ e ∈ ea.toList ++ eb.toList, ∃ k u, e.2 = Value.str k u := fun e he => by
    rcases List.mem_append.mp he with q | q
    · obtain ⟨k, hk⟩ := la.keys e q
      obtain ⟨u, hu⟩ := txt_of hk
      exact ⟨k, u, hu⟩
    · obtain ⟨k, hk⟩ := lb.keys e q
      obtain ⟨u, hu⟩ := txt_of hk
      exact ⟨k, u, hu⟩
  generalize hL : ea.toList ++ eb.toList = L at all ⊢
  refine wpAny_bind ?_
  clear hL
  induction L with
  | nil =>
    rw [List.forIn_nil]
    exact wpAny_pure (wpAny_pure h)
  | cons e L ih =>
    rw [List.forIn_cons]
    obtain ⟨k, u, hu⟩ := all e List.mem_cons_self
    obtain ⟨z, x⟩ := e
    obtain rfl : x = Value.str k u := hu
    refine wpAny_bind ?_
    show wpAny _ _ (Builtin.Frozenset.quietEq (Value.str k u) >>= _) _ _ _
    refine wpAny_bind (wpAny_pure ?_)
    refine wpAny_pure ?_
    exact ih fun e he => all e (List.mem_cons_of_mem _ he)
theorem subset_txt {nm : String} {a b : Addr} {S T : Str → Bool} {m n : Nat} (hS : s.heap.SetOf (PySem.strKind prog w) a S m) (hT : s.heap.SetOf (PySem.strKind prog w) b T n) {Q : Bool → Shared → Prop} (hmn : m ≤ n) (h : ∀ k : Bool, (k = true ↔ ∀ x, S x = true → T x = true) → Q k s) :
    wpAny (model prog w) A (Builtin.Frozenset.subsetOf nm a b) Q E s := by
  obtain ⟨oa, ea, pa, ta, ha, xa, da, la, ma, ba, fa, na⟩ := id hS
  obtain ⟨ob, eb, pb, tb, hb, xb, db, lb, mb, bb, fb, nb⟩ := id hT
  unfold Builtin.Frozenset.subsetOf Builtin.Frozenset.sizeOf
  refine wpAny_bind (wpAny_bind (wpAny_setEntries_of ha da fa (wpAny_pure ?_)))
  refine wpAny_bind (wpAny_bind (wpAny_setEntries_of hb db fb (wpAny_pure ?_)))
  rw [if_neg (by omega)]
  refine wpAny_bind (wpAny_setEpoch_of ha da fa ?_)
  refine wpAny_bind (walkUnseen_txt ha da fa la hb db fb lb ?_)
  refine wpAny_bind ?_
  have hK : ∀ e ∈ ea.toList, ∃ k u, e.2 = Value.str k u ∧ e.1 = (PySem.strKind prog w).hash k := fun e he => by
    obtain ⟨⟨k, hk, hh⟩, _⟩ := la e he
    obtain ⟨u, hu⟩ := txt_of hk
    exact ⟨k, u, hu, hh⟩
  have main : ∀ (L : List (Int × Value)), (∀ e ∈ L, e ∈ ea.toList) → ∀ Q' : Option Bool × Unit → Shared → Prop,
      ((∀ e ∈ L, ∀ k u, e.2 = Value.str k u → T k = true) → Q' (none, ()) s) → ((∃ e ∈ L, ∃ k u, e.2 = Value.str k u ∧ T k = false) → Q' (some false, ()) s) →
      wpAny (model prog w) A (forIn L ((none, ()) : Option Bool × Unit) fun x __s =>
        match x with
        | (h, x) => do
          let r ← holding [x] (setFind b x h)
          if r.isNone = true then pure (ForInStep.done (some false, ()))
            else do
              Builtin.Frozenset.unchanged nm a pa
              pure (ForInStep.yield (none, ()))) Q' E s := by
    intro L
    induction L with
    | nil =>
      intro _ Q' h1 _
      rw [List.forIn_nil]
      exact wpAny_pure (h1 fun e he => absurd he (by simp))
    | cons e L ih =>
      intro hL Q' h1 h2
      rw [List.forIn_cons]
      obtain ⟨k, u, hu, hh⟩ := hK e (hL e List.mem_cons_self)
      obtain ⟨z, x⟩ := e
      obtain rfl : x = Value.str k u := hu
      obtain rfl : z = (PySem.strKind prog w).hash k := hh
      refine wpAny_bind ?_
      refine wpAny_bind (wpAny_holding (wpAny_setFind_of (knd := PySem.strKind prog w) (keyStr prog w k u) rfl hT fun r hr => ?_))
      cases hk : T k with
      | false =>
        rw [hk] at hr
        have : r = none := by cases r <;> simp at hr ⊢
        rw [this]
        refine wpAny_pure (wpAny_pure (h2 ⟨_, List.mem_cons_self, k, u, rfl, hk⟩))
      | true =>
        rw [hk] at hr
        have : r.isNone = false := by cases r <;> simp at hr ⊢
        rw [this]
        refine wpAny_bind ?_
        unfold Builtin.Frozenset.unchanged
        refine wpAny_bind (wpAny_setEpoch_of ha da fa ?_)
        rw [bne_self_eq_false]
        refine wpAny_pure (wpAny_pure ?_)
        refine ih (fun e he => hL e (List.mem_cons_of_mem _ he)) Q' (fun q => h1 fun e he k' u' hu' => ?_) fun ⟨e, he, q⟩ => h2 ⟨e, List.mem_cons_of_mem _ he, q⟩
        rcases List.mem_cons.mp he with rfl | he
        · cases hu'
          exact hk
        · exact q e he k' u' hu'
  refine main ea.toList (fun _ z => z) _ (fun q => wpAny_pure (h true ⟨fun _ x hx => ?_, fun _ => rfl⟩)) fun q => wpAny_pure (h false ⟨(fun z => by cases z), fun z => ?_⟩)
  · obtain ⟨e, he, hk⟩ := (ma x).mp hx
    obtain ⟨u, hu⟩ := txt_of hk
    exact q e he x u hu
  · obtain ⟨e, he, k, u, hu, hk⟩ := q
    have : S k = true := (ma k).mpr ⟨e, he, by rw [hu]; exact keyStr prog w k u⟩
    rw [z k this] at hk
    cases hk
end
end LhS
set_option Elab.async false
set_option linter.all false
set_option maxRecDepth 100000
set_option maxHeartbeats 8000000
namespace LhS
open PySem PyProof.Rows
theorem entry_eq : entryFor table "set.__eq__" = some Builtin.«frozenset.__eq__» := entryFor_alias (id' := "frozenset.__eq__") (by kernel_rfl) rfl (by decide +kernel) (by kernel_rfl)
theorem set_set : isSubtype (.type "set") (.type "set") = pure true := by
  rw [isSubtype_type]
  kernel_rfl
theorem set_froz : isSubtype (.type "set") (.type "frozenset") = pure false := by
  rw [isSubtype_type]
  kernel_rfl
section
variable {prog : Program} {w : World} {A : Around} {R : Result → Shared → Prop} {s : Shared}
theorem eq_sets {a b : Addr} {S T : Str → Bool} {m n : Nat} (hS : s.heap.SetOf (PySem.strKind prog w) a S m) (hT : s.heap.SetOf (PySem.strKind prog w) b T n) (h : ∀ k : Bool, (k = true ↔ m = n ∧ ∀ x, S x = true → T x = true) → R (.ok (.ret (.bool k))) s) :
    wpAny (model prog w) A.in1 (Builtin.«frozenset.__eq__» ⟨[.ref a, .ref b], []⟩) (fun fin s' => ∃ v, fin = .done (.ret v) ∧ R (.ok (.ret v)) s') (fun e s' => R (.error e) s') s := by
  have hS' := hS
  have hT' := hT
  obtain ⟨oa, ea, pa, ta, ha, xa, da, la, ma, ba, fa, na⟩ := hS
  obtain ⟨ob, eb, pb, tb, hb, xb, db, lb, mb, bb, fb, nb⟩ := hT
  obtain ⟨ca, dca, dta, sla⟩ := oa
  obtain ⟨cb, dcb, dtb, slb⟩ := ob
  obtain ⟨rfl, rfl, rfl⟩ := xa
  obtain ⟨rfl, rfl, rfl⟩ := xb
  simp only at da db
  subst da db
  have tA : s.TypeIs (.ref a) "set" := ⟨_, ha, rfl⟩
  have tB : s.TypeIs (.ref b) "set" := ⟨_, hb, rfl⟩
  have n1 := set_set
  have n2 := set_froz
  have f1 : ta.place.size = ea.size := by
    simp only [SetTable.fits, Bool.and_eq_true, beq_iff_eq] at fa
    exact fa.1
  have f2 : ta.fill ≤ ta.mask := by
    simp only [SetTable.fits, Bool.and_eq_true, decide_eq_true_eq] at fa
    exact fa.2
  have f3 : tb.place.size = eb.size := by
    simp only [SetTable.fits, Bool.and_eq_true, beq_iff_eq] at fb
    exact fb.1
  have f4 : tb.fill ≤ tb.mask := by
    simp only [SetTable.fits, Bool.and_eq_true, decide_eq_true_eq] at fb
    exact fb.2
  obtain ⟨hp, g, d, tk, os⟩ := s
  unfold Builtin.«frozenset.__eq__»
  wp_walk
  by_cases c : ea.size = eb.size
  · rw [if_neg (by simp [c])]
    have hmn : m ≤ n := by omega
    wp_walk using (subset_txt hS' hT' hmn)
    intro k hk
    wp_walk
    exact ⟨_, rfl, h k ⟨fun q => ⟨by omega, hk.mp q⟩, fun q => hk.mpr q.2⟩⟩
  · rw [if_pos (by simp [c])]
    wp_walk
    exact ⟨_, rfl, h false ⟨(fun z => by cases z), fun z => absurd (na.symm ▸ nb.symm ▸ z.1) c⟩⟩
end
end LhS
namespace Lh
open PySem PySem.Spec PyProof.Rows L2
/-- the set of texts at a -/
def SetT (P : Program) (w : World) (a : Addr) (S : Str → Bool) (n : Nat) : HO := .ext fun h => h.SetOf (PySem.strKind P w) a S n
section
variable {X : Cx}
theorem setT_at {P : Program} {w : World} {h h' : Heap} {a : Addr} {S : Str → Bool} {n : Nat} (R : h.SetOf (PySem.strKind P w) a S n) (k : ∀ o, h.get? a = some o → h'.get? a = some o) : h'.SetOf (PySem.strKind P w) a S n := by
  obtain ⟨o, es, ep, t, ho, r⟩ := R
  exact ⟨o, es, ep, t, k o ho, r⟩
theorem setT_new {w : World} {P : Program} {H : Hp} {h : Heap} {a : Addr} {S : Str → Bool} {n : Nat} (R : h.SetOf (PySem.strKind P w) a S n) : ObjOk P w H h a (SetT P w a S n) := by
  have ⟨o, _, _, _, ho, _⟩ := R
  exact ⟨R, ⟨o, ho⟩, fun h1 h2 p k => setT_at p k⟩
/-- set(a text) -/
def rSetTxt (P : Program) (w : World) : List V → Hp → VK → Prop := fun vs H Q => ∃ l : List Nat, vs = [.str (SX.S l)] ∧ l.length ≤ 1000 ∧ ∀ (p : Addr) (S : Str → Bool) (n : Nat), H p = none → (∃ ks : List Nat, ks.Nodup ∧ ks.length = n ∧ (∀ c, c ∈ ks ↔ c ∈ l) ∧ ∀ k, S k = true ↔ ∃ c ∈ ks, k = SX.S [c]) → Q (.ref p) (upd H p (SetT P w p S n))
theorem col_codes {l : List Nat} {S : Str → Bool} {n : Nat} (c : LhS.Col (LhS.sgn (SX.S l)) (SX.S l).cps.size S n) : ∃ ks : List Nat, ks.Nodup ∧ ks.length = n ∧ (∀ c, c ∈ ks ↔ c ∈ l) ∧ ∀ k, S k = true ↔ ∃ c ∈ ks, k = SX.S [c] := by
  obtain ⟨L, nd, hl, -, hS, hm⟩ := c
  have hsz : (SX.S l).cps.size = l.length := by simp [SX.S]
  rw [hsz] at hm
  have hg : ∀ j, j < l.length → LhS.sgn (SX.S l) j = SX.S [l.getD j 0] := fun j hj => by
    simp [LhS.sgn, SX.S, hj]
  have one : ∀ k ∈ L, k = SX.S [k.cps.getD 0 0] ∧ k.cps.getD 0 0 ∈ l := fun k hk => by
    obtain ⟨j, hj, e⟩ := (hm k).mp hk
    rw [hg j hj] at e
    rw [← e]
    refine ⟨by simp [SX.S], ?_⟩
    simp [SX.S, hj]
  have inj : ∀ a b : Nat, SX.S [a] = SX.S [b] → a = b := fun a b e => by
    have := congrArg (fun z : Str => z.cps.toList) e
    simpa [SX.S] using this
  have mk : ∀ c, c ∈ L.map (fun k => k.cps.getD 0 0) ↔ c ∈ l := fun c => by
    rw [List.mem_map]
    constructor
    · rintro ⟨k, hk, rfl⟩
      exact (one k hk).2
    · intro hc
      obtain ⟨j, hj, rfl⟩ := List.getElem_of_mem hc
      refine ⟨SX.S [l[j]], (hm _).mpr ⟨j, hj, ?_⟩, by simp [SX.S]⟩
      rw [hg j hj]
      simp [hj]
  refine ⟨L.map fun k => k.cps.getD 0 0, ?_, by rw [List.length_map, hl], mk, fun k => ?_⟩
  · refine List.pairwise_map.mpr ((List.pairwise_iff_forall_sublist.mpr ?_))
    intro a b hab e
    have ha : a ∈ L := hab.subset (by simp)
    have hb : b ∈ L := hab.subset (by simp)
    have ne : a ≠ b := (List.pairwise_iff_forall_sublist.mp nd) hab
    exact ne (by rw [(one a ha).1, (one b hb).1, e])
  · rw [hS]
    constructor
    · intro hk
      exact ⟨_, List.mem_map.mpr ⟨k, hk, rfl⟩, (one k hk).1⟩
    · rintro ⟨c, hc, rfl⟩
      obtain ⟨k, hk, rfl⟩ := List.mem_map.mp hc
      rw [← (one k hk).1]
      exact hk
theorem call_setTxt (hc : X.calm = true) : CallR X (.type "set") (rSetTxt X.prog X.w) := by
  intro pins s σ H vs us Q I r h
  obtain ⟨l, rfl, hl, q⟩ := h
  obtain ⟨u, rfl, ru⟩ := vals1 r
  obtain ⟨t, rfl⟩ := ru
  have hsz : (SX.S l).cps.size = l.length := by simp [SX.S]
  refine LhS.mk_set (I.ok.hd hc) (by rw [hsz]; unfold scanBound; omega) fun h' tk S m hS cl keep => ?_
  refine ⟨.ref _, upd H s.heap.objs.size (SetT X.prog X.w s.heap.objs.size S m), I.laid (t' := tk) (fun b u e => keep b u (Heap.lt_size e) e) (Nat.le_refl _) (setT_new hS), rfl, q _ S m (I.hok.fresh (Nat.le_refl _)) (col_codes cl)⟩
theorem call_lenT : CallR X (.builtin "len") (fun xs H Q => ∃ a S n, xs = [V.ref a] ∧ H a = some (SetT X.prog X.w a S n) ∧ Q (.int (n : Nat)) H) := by
  intro pins s σ H xs us Q I r h
  obtain ⟨a, S, n, rfl, ha, q⟩ := h
  obtain ⟨u, rfl, ru⟩ := vals1 r
  obtain rfl : u = Value.ref a := ru
  obtain ⟨o, es, ep, t, ho, ex, hd, _, _, hb, hf, hn⟩ := (I.hok a _ ha).1
  refine call_len_set ho ex hd hf (by unfold scanBound at hb; omega) ?_
  rw [hn]
  exact ⟨.int n, H, I.tok _, ⟨_, rfl⟩, q⟩
def rEqSet (P : Program) (w : World) : R2 := fun x y H Q => ∃ a b S T m n, x = .ref a ∧ y = .ref b ∧ H a = some (SetT P w a S m) ∧ H b = some (SetT P w b T n) ∧ ∀ k : Bool, (k = true ↔ m = n ∧ ∀ z, S z = true → T z = true) → Q (.bl k) H
theorem op_eqSet (hu : X.A.units < cLine) : OpR X (compareOp .Eq) (rEqSet X.prog X.w) := by
  intro pins s σ H x y v u Q I rx ry h
  obtain ⟨a, b, S, T, m, n, rfl, rfl, ha, hb, q⟩ := h
  obtain rfl : v = Value.ref a := rx
  obtain rfl : u = Value.ref b := ry
  have hS := (I.hok a _ ha).1
  have hT := (I.hok b _ hb).1
  refine wpAny_richCompare_same_room (op := .Eq) hS.typeIs hT.typeIs PySem.F.slot_set_eq (wpAny_call_entry PySem.F.slot_set_eq hS.typeIs LhS.entry_eq ?_ (PySem.F.args_set_eq_2 _ _)) hu
  refine wpAny_mono (LhS.eq_sets (R := fun r s' => ∃ k : Bool, r = .ok (.ret (.bool k)) ∧ s' = s ∧ (k = true ↔ m = n ∧ ∀ z, S z = true → T z = true)) hS hT fun k hk => ⟨k, rfl, rfl, hk⟩) (fun fin s' h => ?_) fun e s' h => ?_
  · obtain ⟨v, rfl, k, e, rfl, hk⟩ := h
    cases e
    exact ⟨_, rfl, (fun z => by cases z), .bl k, H, I, rfl, q k hk⟩
  · obtain ⟨k, e, _⟩ := h
    cases e
end
end Lh
set_option Elab.async false
set_option linter.all false
set_option maxRecDepth 100000
set_option maxHeartbeats 4000000
/-! Expressions. -/
namespace Lh.P
open PySem PySem.Spec PyProof.Rows L2 SX

theorem lim {n : Nat} (h : n ≤ 100000) : n ≤ sizeLine := Nat.le_trans h (by decide)
theorem limL {n : Nat} (h : n < 100000) : n < sizeLine := Nat.lt_of_lt_of_le h (by decide)
def lk (Γ : Env) (i : Nat) : Rs PV := match Γ[i]? with
  | some (some p) => .ok p
  | _ => .bad
section
variable {X : Cx} {W : WX} {V : List Nat} {e a b c : Expr} {es : List Expr} {pos : Pos}
/-! ### names, constants -/
theorem x_var {i : Nat} (h : PE X e (tVar i)) (hi : i ∈ V := by decide) : EX X W V e (fun Γ => lk Γ i) := fun Γ σ H0 H Q sh sm q => by
  refine PE.to h ?_
  have q : Post X.K W σ (gE X.K Q) H0 H (lk Γ i) := q
  unfold lk at q
  cases hp : Γ[i]? with
  | none => rw [hp] at q; exact False.elim q
  | some o =>
    cases o with
    | none => rw [hp] at q; exact False.elim q
    | some p =>
      rw [hp] at q
      obtain ⟨v, h1, h2⟩ := sh.2 i hi p hp
      exact ⟨v, h1, q.pure sm v h2⟩
theorem x_c {v : L2.V} {p : PV} (h : PE X e (tC v)) (hr : ∀ H0, Rep X.K H0 p v) : EX X W V e (fun _ => .ok p) := fun Γ σ H0 H Q sh sm q => PE.to h (q.pure sm v (hr _))
theorem x_int {i : Int} {j} : EX X W V (.Constant (.int i) j pos) (fun _ => .ok (.int i)) := x_c pe_int fun _ => rfl
theorem x_bl {i : Bool} {j} : EX X W V (.Constant (.bool i) j pos) (fun _ => .ok (.bl i)) := x_c pe_bl fun _ => rfl
theorem x_non {j} : EX X W V (.Constant .none j pos) (fun _ => .ok .non) := x_c pe_non fun _ => rfl
theorem x_str {x : Str} {j} (s : List Nat) (h : x = S s) : EX X W V (.Constant (.str x) j pos) (fun _ => .ok (.str s)) := x_c pe_str fun _ => by rw [h]; rfl

/-! ### two operands -/
/-- an operation on two values, as the rules r tell it -/
def OpP (X : Cx) (f : Value → Value → Sem Value) (g : PV → PV → Rs PV) : Prop := ∃ r, OpR X f r ∧ ∀ (W : WX) σ p q v w H0 H Q, Rep X.K H0 p v → Rep X.K H0 q w → Same H0 H → Post X.K W σ (gE X.K Q) H0 H (g p q) → r v w H Q
/-- the same, to a new list -/
def OpO (X : Cx) (f : Value → Value → Sem Value) (g : PV → PV → Rs PV) : Prop := ∃ r, OpR X f r ∧ ∀ (W : WX) σ p q v w H0 Hs H Q, Same Hs H → Rep X.K H0 p v → Rep X.K H0 q w → Same H0 H → Post X.K W σ (gO X.K Hs Q) H0 H (g p q) → r v w H Q
def b2 (f g : Env → Rs PV) (k : PV → PV → Rs PV) : Env → Rs PV := fun Γ => (f Γ).bind fun x => (g Γ).bind fun y => k x y
theorem two {fa fb : Env → Rs PV} {g : PV → PV → Rs PV} (ha : EX X W V a fa) (hb : EX X W V b fb) {Γ : Env} {σ : L2.St} {H0 H : Hp} {good : PV → Hp → Hp → Prop} (sh : Shr X.K V H0 Γ σ) (sm : Same H0 H) (q : Post X.K W σ good H0 H (b2 fa fb g Γ))
    {R : L2.V → L2.V → Hp → Prop} (k : ∀ x y v w H0' H', Gr H0 H H0' H' → Rep X.K H0' x v → Rep X.K H0' y w → Post X.K W σ good H0' H' (g x y) → R v w H') : tOf X a σ H fun v H1 => tOf X b σ H1 fun w H2 => R v w H2 :=
  ha Γ σ H0 H _ sh sm (q.step.mono fun x H1 H1' g1 q1 v rv => hb Γ σ H1 H1' _ (sh.mono g1.a) g1.c (q1.step.mono fun y H2 H2' g2 q2 w rw_ => k x y v w H2 H2' (g1.trans g2) (rv.mono g2.a) rw_ q2))
theorem x_op {op : Operator} {g : PV → PV → Rs PV} {fa fb : Env → Rs PV} (ho : OpP X (binaryOp op) g) (ha : EX X W V a fa) (hb : EX X W V b fb) : EX X W V (.BinOp a op b pos) (b2 fa fb g) := fun Γ σ H0 H Q sh sm q => by
  obtain ⟨r, hr, hp⟩ := ho
  exact PE.to (pe_op hr pe_of pe_of) (two ha hb sh sm q fun x y v w H1 H2 g1 r1 r2 q1 => hp W σ x y v w H1 H2 Q r1 r2 g1.c q1)
theorem o_op {op : Operator} {g : PV → PV → Rs PV} {fa fb : Env → Rs PV} (ho : OpO X (binaryOp op) g) (ha : EX X W V a fa) (hb : EX X W V b fb) : OX X W V (.BinOp a op b pos) (b2 fa fb g) := fun Γ σ H0 H Q sh sm q => by
  obtain ⟨r, hr, hp⟩ := ho
  exact PE.to (pe_op hr pe_of pe_of) (two ha hb sh sm q fun x y v w H1 H2 g1 r1 r2 q1 => hp W σ x y v w H1 H H2 Q g1.b r1 r2 g1.c q1)
theorem x_cmp {op : CmpOp} {g : PV → PV → Rs PV} {fa fb : Env → Rs PV} (ho : OpP X (compareOp op) g) (ha : EX X W V a fa) (hb : EX X W V b fb) (hm : behindInMarks op b = false) : EX X W V (.Compare a [op] [b] pos) (b2 fa fb g) := fun Γ σ H0 H Q sh sm q => by
  obtain ⟨r, hr, hp⟩ := ho
  exact PE.to (pe_cmpR hr pe_of pe_of hm) (two ha hb sh sm q fun x y v w H1 H2 g1 r1 r2 q1 => hp W σ x y v w H1 H2 Q r1 r2 g1.c q1)
/-- a value that is True or False -/
def isB : PV → Rs Bool
  | .bl b => .ok b
  | _ => .bad
theorem isB_post {K : PySem.W.Frag} {σ : L2.St} {H0 H : Hp} {Q : Bool → Hp → Prop} (s : Same H0 H) {p : PV} (q : Post K W σ (gT Q) H0 H (isB p)) {v : L2.V} (r : Rep K H0 p v) : ∃ k, v = .bl k ∧ Q k H := by
  cases p with
  | bl b => exact ⟨b, r, q.pure s⟩
  | _ => exact False.elim q
def bT (f : Env → Rs PV) : Env → Rs Bool := fun Γ => (f Γ).bind isB
/-- a test whose value is True or False -/
theorem t_val {f : Env → Rs PV} (h : EX X W V e f) (he : ∀ whole, isTrue e X.env whole = (do let v ← whole; standAt e.pos; holding [v] (truthy v)) := by intro _; rfl) : TX X W V e (bT f) := fun Γ σ H0 H Q sh sm q =>
  PT.to (pt_val pe_of he) (h Γ σ H0 H _ sh sm (q.step.mono fun x H1 H2 g q1 v r => isB_post g.c q1 r))
theorem t_cmp {op : CmpOp} {g : PV → PV → Rs PV} {fa fb : Env → Rs PV} (ho : OpP X (compareOp op) g) (ha : EX X W V a fa) (hb : EX X W V b fb) (hm : behindInMarks op b = false) : TX X W V (.Compare a [op] [b] pos) (bT (b2 fa fb g)) := fun Γ σ H0 H Q sh sm q => by
  obtain ⟨r, hr, hp⟩ := ho
  refine PT.to (pt_cmpR hr pe_of pe_of hm) (two ha hb sh sm q.step fun x y v w H1 H2 g1 r1 r2 q1 => hp W σ x y v w H1 H2 _ r1 r2 g1.c (q1.mono fun z H3 H4 g2 q2 u ru => isB_post g2.c q2 ru))
/-- a op b op' c -/
def b3 (f g h : Env → Rs PV) (k k' : PV → PV → Rs PV) : Env → Rs PV := fun Γ => (f Γ).bind fun x => (g Γ).bind fun y => (k x y).bind fun z => (isB z).bind fun t => if t = true then (h Γ).bind fun u => k' y u else .ok (.bl false)
theorem chain_post {op op' : CmpOp} {g g' : PV → PV → Rs PV} {fa fb fc : Env → Rs PV} {r r' : R2} (hp : ∀ (W : WX) σ p q v w H0 H Q, Rep X.K H0 p v → Rep X.K H0 q w → Same H0 H → Post X.K W σ (gE X.K Q) H0 H (g p q) → r v w H Q)
    (hp' : ∀ (W : WX) σ p q v w H0 H Q, Rep X.K H0 p v → Rep X.K H0 q w → Same H0 H → Post X.K W σ (gE X.K Q) H0 H (g' p q) → r' v w H Q)
    (ha : EX X W V a fa) (hb : EX X W V b fb) (hc : EX X W V c fc) {Γ : Env} {σ : L2.St} {H0 H : Hp} {Q : VK} (sh : Shr X.K V H0 Γ σ) (sm : Same H0 H) (q : Post X.K W σ (gE X.K Q) H0 H (b3 fa fb fc g g' Γ)) :
    tChain r r' (tOf X a) (tOf X b) (tOf X c) σ H Q := by
  refine two ha hb sh sm q fun x y v w H1 H2 g1 r1 r2 q1 => hp W σ x y v w H1 H2 _ r1 r2 g1.c (q1.step.mono fun z H3 H4 g2 q2 u ru => ?_)
  cases z with
  | bl k =>
    refine ⟨k, ru, ?_⟩
    cases k with
    | true =>
      rw [if_pos rfl]
      have q3 : Post X.K W σ (gE X.K Q) H3 H4 ((fc Γ).bind fun u => g' y u) := q2
      exact hc Γ σ H3 H4 _ (sh.mono (g1.a.trans g2.a)) g2.c (q3.step.mono fun u H5 H6 g3 q4 t rt => hp' W σ y u w t H5 H6 Q ((r2.mono g2.a).mono g3.a) rt g3.c q4)
    | false =>
      rw [if_neg (by decide)]
      have q3 : Post X.K W σ (gE X.K Q) H3 H4 (.ok (.bl false)) := q2
      exact pV g2.c q3 rfl
  | _ => exact False.elim q2
theorem x_chain {op op' : CmpOp} {g g' : PV → PV → Rs PV} {fa fb fc : Env → Rs PV} (ho : OpP X (compareOp op) g) (ho' : OpP X (compareOp op') g') (ha : EX X W V a fa) (hb : EX X W V b fb) (hc : EX X W V c fc)
    (hm : lastMarks [op, op'] [b, c] = false := by with_unfolding_all rfl) : EX X W V (.Compare a [op, op'] [b, c] pos) (b3 fa fb fc g g') := fun Γ σ H0 H Q sh sm q => by
  obtain ⟨r, hr, hp⟩ := ho
  obtain ⟨r', hr', hp'⟩ := ho'
  exact PE.to (pe_chain hr hr' pe_of pe_of pe_of hm) (chain_post (op := op) (op' := op') hp hp' ha hb hc sh sm q)
theorem t_chain {op op' : CmpOp} {g g' : PV → PV → Rs PV} {fa fb fc : Env → Rs PV} (ho : OpP X (compareOp op) g) (ho' : OpP X (compareOp op') g') (ha : EX X W V a fa) (hb : EX X W V b fb) (hc : EX X W V c fc)
    (hm : lastMarks [op, op'] [b, c] = false := by with_unfolding_all rfl) : TX X W V (.Compare a [op, op'] [b, c] pos) (bT (b3 fa fb fc g g')) := fun Γ σ H0 H Q sh sm q => by
  obtain ⟨r, hr, hp⟩ := ho
  obtain ⟨r', hr', hp'⟩ := ho'
  refine PT.to (pt_chain hr hr' pe_of pe_of pe_of hm) ?_
  exact chain_post (op := op) (op' := op') hp hp' ha hb hc sh sm (q.step.mono fun z H3 H4 g2 q2 u ru => isB_post g2.c q2 ru)

/-! ### tests; and, or, not; a if c else b -/
def bNot (f : Env → Rs Bool) : Env → Rs Bool := fun Γ => (f Γ).bind fun b => .ok (!b)
def bAnd (f g : Env → Rs Bool) : Env → Rs Bool := fun Γ => (f Γ).bind fun b => if b = true then g Γ else .ok false
def bOr (f g : Env → Rs Bool) : Env → Rs Bool := fun Γ => (f Γ).bind fun b => if b = true then .ok true else g Γ
def bV (f : Env → Rs Bool) : Env → Rs PV := fun Γ => (f Γ).bind fun b => .ok (.bl b)
theorem t_not {f : Env → Rs Bool} (h : TX X W V a f) : TX X W V (.UnaryOp .Not a pos) (bNot f) := fun Γ σ H0 H Q sh sm q =>
  PT.to (pt_not pt_of) (h Γ σ H0 H _ sh sm (q.step.mono fun b H1 H2 g q1 => pT g.c (show Post X.K W σ (gT Q) H1 H2 (.ok (!b)) from q1)))
theorem u_t {f : Env → Rs Bool} (h : UX X W V a f) : TX X W V a f := fun Γ σ H0 H Q sh sm q => PT.to (PW.pt pw_of) (h Γ σ H0 H Q sh sm q)
theorem u_and1 {f : Env → Rs Bool} (h : TX X W V a f) : UX X W V (.BoolOp .And [a] pos) f := fun Γ σ H0 H Q sh sm q => PW.to (pw_and1 pt_of) (h Γ σ H0 H Q sh sm q)
theorem u_or1 {f : Env → Rs Bool} (h : TX X W V a f) : UX X W V (.BoolOp .Or [a] pos) f := fun Γ σ H0 H Q sh sm q => PW.to (pw_or1 pt_of) (h Γ σ H0 H Q sh sm q)
theorem u_and {f g : Env → Rs Bool} {rest : List Expr} (ha : TX X W V a f) (hb : UX X W V (.BoolOp .And (b :: rest) pos) g) : UX X W V (.BoolOp .And (a :: b :: rest) pos) (bAnd f g) := fun Γ σ H0 H Q sh sm q => by
  refine PW.to (pw_and pt_of pw_of) (ha Γ σ H0 H _ sh sm (q.step.mono fun k H1 H2 g1 q1 => ?_))
  cases k with
  | true => exact hb Γ σ H1 H2 Q (sh.mono g1.a) g1.c q1
  | false => exact pT g1.c (show Post X.K W σ (gT Q) H1 H2 (.ok false) from q1)
theorem u_or {f g : Env → Rs Bool} {rest : List Expr} (ha : TX X W V a f) (hb : UX X W V (.BoolOp .Or (b :: rest) pos) g) : UX X W V (.BoolOp .Or (a :: b :: rest) pos) (bOr f g) := fun Γ σ H0 H Q sh sm q => by
  refine PW.to (pw_or pt_of pw_of) (ha Γ σ H0 H _ sh sm (q.step.mono fun k H1 H2 g1 q1 => ?_))
  cases k with
  | false => exact hb Γ σ H1 H2 Q (sh.mono g1.a) g1.c q1
  | true => exact pT g1.c (show Post X.K W σ (gT Q) H1 H2 (.ok true) from q1)
/-- as values -/
def vNot (f : Env → Rs PV) : Env → Rs PV := fun Γ => (f Γ).bind fun x => (isB x).bind fun b => .ok (.bl (!b))
def vAnd (f g : Env → Rs PV) : Env → Rs PV := fun Γ => (f Γ).bind fun x => (isB x).bind fun b => if b = true then g Γ else .ok (.bl false)
def vOr (f g : Env → Rs PV) : Env → Rs PV := fun Γ => (f Γ).bind fun x => (isB x).bind fun b => if b = true then .ok (.bl true) else g Γ
theorem x_not {f : Env → Rs PV} (h : EX X W V a f) : EX X W V (.UnaryOp .Not a pos) (vNot f) := fun Γ σ H0 H Q sh sm q => by
  refine PE.to (pe_not pe_of) (h Γ σ H0 H _ sh sm (q.step.mono fun x H1 H2 g q1 v r => ?_))
  cases x with
  | bl b => exact ⟨b, r, pV g.c (show Post X.K W σ (gE X.K Q) H1 H2 (.ok (.bl (!b))) from q1) rfl⟩
  | _ => exact False.elim q1
theorem x_one {f : Env → Rs PV} {op} (h : EX X W V a f) : EX X W V (.BoolOp op [a] pos) f := fun Γ σ H0 H Q sh sm q => PE.to (pe_one pe_of) (h Γ σ H0 H Q sh sm q)
theorem x_and {f g : Env → Rs PV} {rest : List Expr} (ha : EX X W V a f) (hb : EX X W V (.BoolOp .And (b :: rest) pos) g) : EX X W V (.BoolOp .And (a :: b :: rest) pos) (vAnd f g) := fun Γ σ H0 H Q sh sm q => by
  refine PE.to (pe_and pe_of pe_of) (ha Γ σ H0 H _ sh sm (q.step.mono fun x H1 H2 g1 q1 v r => ?_))
  cases x with
  | bl k =>
    refine ⟨k, r, ?_⟩
    cases k with
    | true => rw [if_pos rfl]; exact hb Γ σ H1 H2 Q (sh.mono g1.a) g1.c q1
    | false => rw [if_neg (by decide)]; exact pV g1.c (show Post X.K W σ (gE X.K Q) H1 H2 (.ok (.bl false)) from q1) rfl
  | _ => exact False.elim q1
theorem x_or {f g : Env → Rs PV} {rest : List Expr} (ha : EX X W V a f) (hb : EX X W V (.BoolOp .Or (b :: rest) pos) g) : EX X W V (.BoolOp .Or (a :: b :: rest) pos) (vOr f g) := fun Γ σ H0 H Q sh sm q => by
  refine PE.to (pe_or pe_of pe_of) (ha Γ σ H0 H _ sh sm (q.step.mono fun x H1 H2 g1 q1 v r => ?_))
  cases x with
  | bl k =>
    refine ⟨k, r, ?_⟩
    cases k with
    | false => rw [if_neg (by decide)]; exact hb Γ σ H1 H2 Q (sh.mono g1.a) g1.c q1
    | true => rw [if_pos rfl]; exact pV g1.c (show Post X.K W σ (gE X.K Q) H1 H2 (.ok (.bl true)) from q1) rfl
  | _ => exact False.elim q1
def bIf (t : Env → Rs Bool) (f g : Env → Rs PV) : Env → Rs PV := fun Γ => (t Γ).bind fun b => if b = true then f Γ else g Γ
theorem x_if {t : Env → Rs Bool} {f g : Env → Rs PV} (hc : TX X W V c t) (ha : EX X W V a f) (hb : EX X W V b g) : EX X W V (.IfExp c a b pos) (bIf t f g) := fun Γ σ H0 H Q sh sm q => by
  refine PE.to (pe_ifExp pt_of pe_of pe_of) (hc Γ σ H0 H _ sh sm (q.step.mono fun k H1 H2 g1 q1 => ?_))
  cases k with
  | true => exact ha Γ σ H1 H2 Q (sh.mono g1.a) g1.c q1
  | false => exact hb Γ σ H1 H2 Q (sh.mono g1.a) g1.c q1

/-! ### one operand -/
def b1 (f : Env → Rs PV) (k : PV → Rs PV) : Env → Rs PV := fun Γ => (f Γ).bind k
def pNeg : PV → Rs PV
  | .int i => .ok (.int (-i))
  | _ => .bad
theorem x_neg {f : Env → Rs PV} (h : EX X W V a f) : EX X W V (.UnaryOp .USub a pos) (b1 f pNeg) := fun Γ σ H0 H Q sh sm q => by
  refine PE.to (pe_un un_neg pe_of) (h Γ σ H0 H _ sh sm (q.step.mono fun x H1 H2 g q1 v r => ?_))
  cases x with
  | int i => exact ⟨i, r, pV g.c (show Post X.K W σ (gE X.K Q) H1 H2 (.ok (.int (-i))) from q1) rfl⟩
  | _ => exact False.elim q1

/-! ### arguments, tuples, lists -/
def aNil : Env → Rs (List PV) := fun _ => .ok []
def aCons (f : Env → Rs PV) (g : Env → Rs (List PV)) : Env → Rs (List PV) := fun Γ => (f Γ).bind fun x => (g Γ).bind fun xs => .ok (x :: xs)
theorem a_nil : AX X W V [] aNil := fun Γ σ H0 H Q sh sm q => PA.to pa_nil (pA sm q trivial)
theorem a_cons {f : Env → Rs PV} {g : Env → Rs (List PV)} (h : EX X W V e f) (hs : AX X W V es g) (hst : starEach (e :: es) X.env = (false, eval e X.env) :: starEach es X.env := by rfl) : AX X W V (e :: es) (aCons f g) := fun Γ σ H0 H Q sh sm q =>
  PA.to (pa_cons pe_of pa_of hst) (h Γ σ H0 H _ sh sm (q.step.mono fun x H1 H2 g1 q1 v r => hs Γ σ H1 H2 _ (sh.mono g1.a) g1.c (q1.step.mono fun xs H3 H4 g2 q2 vs rs => pA g2.c q2 (show Reps X.K H3 (x :: xs) (v :: vs) from ⟨Rep.mono g2.a _ _ r, rs⟩))))
def pTup (xs : List PV) : Rs PV := if xs.length ≤ 100000 then .ok (.tup xs) else .bad
def pLst (xs : List PV) : Rs PV := if xs.length ≤ 100000 then .ok (.lst xs) else .bad
theorem x_tup {g : Env → Rs (List PV)} {k} (h : AX X W V es g) : EX X W V (.Tuple es k pos) (fun Γ => (g Γ).bind pTup) := fun Γ σ H0 H Q sh sm q => by
  refine PE.to (pe_tup pa_of) (h Γ σ H0 H _ sh sm (q.step.mono fun xs H1 H2 g1 q1 vs rs => ?_))
  have q1 : Post X.K W σ (gE X.K Q) H1 H2 (pTup xs) := q1
  unfold pTup at q1
  split at q1
  · rename_i hl
    refine ⟨lim (by rw [rs.len]; exact hl), fun p hp => ?_⟩
    have gn := Gr.new (o := .tup vs) g1.c hp
    exact q1 _ _ gn _ ⟨p, vs, rfl, upd_same, rs.mono gn.a⟩
  · exact False.elim q1
theorem o_lst {g : Env → Rs (List PV)} (h : AX X W V es g) : OX X W V (.List es pos) (fun Γ => (g Γ).bind pLst) := fun Γ σ H0 H Q sh sm q => by
  refine PE.to (pe_lst pa_of) (h Γ σ H0 H _ sh sm (q.step.mono fun xs H1 H2 g1 q1 vs rs => ?_))
  have q1 : Post X.K W σ (gO X.K H Q) H1 H2 (pLst xs) := q1
  unfold pLst at q1
  split at q1
  · rename_i hl
    refine ⟨lim (by rw [rs.len]; exact hl), fun p hp => ?_⟩
    have gn := Gr.newO (o := .lst vs) g1.c hp
    exact (q1 _ _ gn).2 p (none_back g1.b hp) (none_back g1.c hp) ⟨vs, upd_same, rs⟩
  · exact False.elim q1
/-- a value without a place, where something new could stand -/
def pSc : PV → Rs PV := fun p => if scP p = true then .ok p else .bad
theorem o_sc {f : Env → Rs PV} (h : EX X W V e f) : OX X W V e (b1 f pSc) := fun Γ σ H0 H Q sh sm q => by
  refine h Γ σ H0 H _ sh sm (q.step.mono fun x H1 H2 g q1 v r => ?_)
  have q1 : Post X.K W σ (gO X.K H Q) H1 H2 (pSc x) := q1
  unfold pSc at q1
  split at q1
  · rename_i hs
    exact (q1 _ _ (Gr.refl g.c)).1 hs v r
  · exact False.elim q1
end
end Lh.P
set_option Elab.async false
set_option linter.all false
set_option maxRecDepth 100000
set_option maxHeartbeats 4000000
/-! What the operations come to. -/
namespace Lh.P
open PySem PySem.Spec PyProof.Rows L2 SX
section
variable {X : Cx}
/-! ### data, for == and in -/
mutual
def dat : PV → Option PyData
  | .non => some .none
  | .bl b => some (.bool b)
  | .int i => some (.int i)
  | .str s => some (.str (S s))
  | .tup xs => match dats xs with
    | some ds => some (.tuple ds)
    | none => none
  | .lst xs => match dats xs with
    | some ds => some (.list ds)
    | none => none
  | .ins _ _ => none
  | .scr _ => none
  | .exr _ _ _ _ => none
  | .dic _ => none
  | .tun _ => none
def dats : List PV → Option (List PyData)
  | [] => some []
  | x :: xs => match dat x, dats xs with
    | some d, some ds => some (d :: ds)
    | _, _ => none
end
mutual
theorem dp_of {K : PySem.W.Frag} {H0 : Hp} : ∀ (p : PV) (v : V) (d : PyData), Rep K H0 p v → dat p = some d → Dp K H0 v d
  | .non, v, d, r, e => by
    cases (show some PyData.none = some d from e)
    rw [show v = .non from r]; exact .non
  | .bl b, v, d, r, e => by
    cases (show some (PyData.bool b) = some d from e)
    rw [show v = .bl b from r]; exact .bl b
  | .int i, v, d, r, e => by
    cases (show some (PyData.int i) = some d from e)
    rw [show v = .int i from r]; exact .int i
  | .str s, v, d, r, e => by
    cases (show some (PyData.str (S s)) = some d from e)
    rw [show v = .str (S s) from r]; exact .str _
  | .tup xs, v, d, r, e => by
    obtain ⟨a, vs, rfl, h, rs⟩ := r
    unfold dat at e
    cases hd : dats xs with
    | none => rw [hd] at e; cases e
    | some ds =>
      rw [hd] at e
      cases e
      exact .tup (SqT.of h) (dps_of xs vs ds rs hd)
  | .lst xs, v, d, r, e => by
    obtain ⟨a, vs, rfl, h, rs⟩ := r
    unfold dat at e
    cases hd : dats xs with
    | none => rw [hd] at e; cases e
    | some ds =>
      rw [hd] at e
      cases e
      exact .lst (SqL.of h) (dps_of xs vs ds rs hd)
  | .ins _ _, _, _, _, e => by unfold dat at e; cases e
  | .scr _, _, _, _, e => by unfold dat at e; cases e
  | .exr _ _ _ _, _, _, _, e => by unfold dat at e; cases e
  | .dic _, _, _, _, e => by unfold dat at e; cases e
  | .tun _, _, _, _, e => by unfold dat at e; cases e
theorem dps_of {K : PySem.W.Frag} {H0 : Hp} : ∀ (p : List PV) (v : List V) (d : List PyData), Reps K H0 p v → dats p = some d → DpAll K H0 v d
  | [], [], d, _, e => by cases (show some [] = some d from e); exact .nil
  | [], _ :: _, _, h, _ => False.elim h
  | _ :: _, [], _, h, _ => False.elim h
  | x :: xs, v :: vs, d, ⟨h1, h2⟩, e => by
    unfold dats at e
    cases hx : dat x with
    | none => rw [hx] at e; cases e
    | some dx =>
      cases hs : dats xs with
      | none => rw [hx, hs] at e; cases e
      | some ds =>
        rw [hx, hs] at e
        cases e
        exact .cons (dp_of x v dx h1 hx) (dps_of xs vs ds h2 hs)
end
end
end Lh.P
open PySem PySem.Spec PyProof.Rows L2 SX Lh
mutual
theorem L2.Dp.same {K : PySem.W.Frag} {H H' : Hp} (s : Same H H') : ∀ {v : V} {d : PyData}, Dp K H v d → Dp K H' v d
  | _, _, .non => .non
  | _, _, .bl b => .bl b
  | _, _, .int i => .int i
  | _, _, .str x => .str x
  | _, _, .lst h a => .lst (s.seq h) (DpAll.same s a)
  | _, _, .tup h a => .tup (Same.seqT s h) (DpAll.same s a)
theorem L2.DpAll.same {K : PySem.W.Frag} {H H' : Hp} (s : Same H H') : ∀ {v : List V} {d : List PyData}, DpAll K H v d → DpAll K H' v d
  | _, _, .nil => .nil
  | _, _, .cons h a => .cons (Dp.same s h) (DpAll.same s a)
end
namespace Lh.P
theorem post_if {α : Type} {K : PySem.W.Frag} {W : WX} {σ : L2.St} {good : α → Hp → Hp → Prop} {H0 H : Hp} {c : Prop} [Decidable c] {r : Rs α} (h : Post K W σ good H0 H (if c then r else .bad)) : c ∧ Post K W σ good H0 H r := by
  by_cases e : c
  · rw [if_pos e] at h; exact ⟨e, h⟩
  · rw [if_neg e] at h; exact False.elim h
section
variable {X : Cx}
/-- the values' data, both of which == can lay side by side -/
def two_dat (p q : PV) : Option (PyData × PyData) := match dat p, dat q with
  | some d, some e => if SeqAt.shaped d && SeqAt.shaped e then some (d, e) else none
  | _, _ => none
theorem two_dat_ok {p q : PV} {d e : PyData} (h : two_dat p q = some (d, e)) : dat p = some d ∧ dat q = some e ∧ SeqAt.shaped d = true ∧ SeqAt.shaped e = true := by
  unfold two_dat at h
  cases hp : dat p with
  | none => rw [hp] at h; cases h
  | some d' =>
    cases hq : dat q with
    | none => rw [hp, hq] at h; cases h
    | some e' =>
      rw [hp, hq] at h
      dsimp only at h
      split at h
      · rename_i hs
        cases h
        rw [Bool.and_eq_true] at hs
        exact ⟨rfl, rfl, hs.1, hs.2⟩
      · cases h
def pEq (p q : PV) : Rs PV := match two_dat p q with
  | some (d, e) => .ok (.bl (PyData.eqv d e))
  | none => .bad
def pNe (p q : PV) : Rs PV := match two_dat p q with
  | some (d, e) => .ok (.bl (!PyData.eqv d e))
  | none => .bad
theorem p_eq (hu : X.A.units + 64 < cLine) : OpP X (compareOp .Eq) pEq := ⟨_, op_eqD hu, fun W σ p q v w H0 H Q r1 r2 sm h => by
  unfold pEq at h
  cases ht : two_dat p q with
  | none => rw [ht] at h; exact False.elim h
  | some de =>
    obtain ⟨d, e⟩ := de
    rw [ht] at h
    obtain ⟨h1, h2, h3, h4⟩ := two_dat_ok ht
    exact ⟨d, e, (dp_of p v d r1 h1).same sm, (dp_of q w e r2 h2).same sm, h3, h4, pV sm h rfl⟩⟩
theorem p_ne (hu : X.A.units + 64 < cLine) : OpP X (compareOp .NotEq) pNe := ⟨_, op_neD hu, fun W σ p q v w H0 H Q r1 r2 sm h => by
  unfold pNe at h
  cases ht : two_dat p q with
  | none => rw [ht] at h; exact False.elim h
  | some de =>
    obtain ⟨d, e⟩ := de
    rw [ht] at h
    obtain ⟨h1, h2, h3, h4⟩ := two_dat_ok ht
    exact ⟨d, e, (dp_of p v d r1 h1).same sm, (dp_of q w e r2 h2).same sm, h3, h4, pV sm h rfl⟩⟩
/-! ### numbers -/
def i2 (g : Int → Int → PV) : PV → PV → Rs PV
  | .int i, .int j => .ok (g i j)
  | _, _ => .bad
/-- what a rule for two ints gives -/
theorem i2_ok {f : Value → Value → Sem Value} {g : Int → Int → PV} {g' : Int → Int → V} (h : OpR X f (rI0 g')) (hg : ∀ H0 i j, Rep X.K H0 (g i j) (g' i j)) : OpP X f (i2 g) := ⟨_, h, fun W σ p q v w H0 H Q r1 r2 sm hh => by
  cases p with
  | int i =>
    cases q with
    | int j => exact ⟨i, j, r1, r2, pV sm hh (hg H0 i j)⟩
    | _ => exact False.elim hh
  | _ => exact False.elim hh⟩
theorem p_sub : OpP X (binaryOp .Sub) (i2 fun i j => .int (i - j)) := i2_ok op_sub fun _ _ _ => rfl
def iC (c : Int → Int → Prop) [∀ i j, Decidable (c i j)] (g : Int → Int → PV) : PV → PV → Rs PV
  | .int i, .int j => if c i j then .ok (g i j) else .bad
  | _, _ => .bad
theorem iC_ok {f : Value → Value → Sem Value} {c C : Int → Int → Prop} [∀ i j, Decidable (c i j)] {g : Int → Int → PV} {g' : Int → Int → V} (h : OpR X f (rI C g')) (hc : ∀ i j, c i j → C i j) (hg : ∀ H0 i j, Rep X.K H0 (g i j) (g' i j)) : OpP X f (iC c g) := ⟨_, h, fun W σ p q v w H0 H Q r1 r2 sm hh => by
  cases p with
  | int i =>
    cases q with
    | int j =>
      obtain ⟨hcc, hh⟩ := post_if hh
      · skip
        exact ⟨i, j, r1, r2, hc i j hcc, pV sm hh (hg H0 i j)⟩
    | _ => exact False.elim hh
  | _ => exact False.elim hh⟩
def pMod : PV → PV → Rs PV := iC (fun _ j => 0 < j) fun i j => .int (i % j)
def pFdiv : PV → PV → Rs PV := iC (fun _ j => 0 < j ∧ j < 1073741824) fun i j => .int (i / j)
def pPow : PV → PV → Rs PV := iC (fun i j => 0 ≤ j ∧ j ≤ 1000 ∧ -1000000000 < i ∧ i < 1000000000) fun i j => .int (i ^ j.toNat)
theorem p_mod : OpP X (binaryOp .Mod) pMod := iC_ok op_mod (fun _ _ h => h) fun _ _ _ => rfl
theorem p_fdiv : OpP X (binaryOp .FloorDiv) pFdiv := iC_ok op_fdiv (fun _ _ h => h) fun _ _ _ => rfl
theorem p_pow : OpP X (binaryOp .Pow) pPow := iC_ok op_pow (fun i j h => ⟨h.1, by omega, Nat.lt_of_lt_of_le (by omega : i.natAbs < 1000000000) (by decide)⟩) fun _ _ _ => rfl
theorem p_lt : OpP X (compareOp .Lt) (i2 fun i j => .bl (decide (i < j))) := i2_ok op_lt fun _ _ _ => rfl
theorem p_gt : OpP X (compareOp .Gt) (i2 fun i j => .bl (decide (j < i))) := i2_ok op_gt fun _ _ _ => rfl
theorem p_le : OpP X (compareOp .LtE) (i2 fun i j => .bl (decide (i ≤ j))) := i2_ok op_le fun _ _ _ => rfl
theorem p_ge : OpP X (compareOp .GtE) (i2 fun i j => .bl (decide (j ≤ i))) := i2_ok op_ge fun _ _ _ => rfl
/-- texts -/
def s2 (g : List Nat → List Nat → PV) : PV → PV → Rs PV
  | .str i, .str j => .ok (g i j)
  | _, _ => .bad
theorem p_leS : OpP X (compareOp .LtE) (s2 fun i j => .bl (!decide (j < i))) := ⟨_, op_le_str, fun W σ p q v w H0 H Q r1 r2 sm hh => by
  cases p with
  | str i =>
    cases q with
    | str j => exact ⟨S i, S j, r1, r2, by rw [codes, codes]; exact pV sm hh rfl⟩
    | _ => exact False.elim hh
  | _ => exact False.elim hh⟩
/-! ### + and times -/
def pAdd : PV → PV → Rs PV
  | .int i, .int j => .ok (.int (i + j))
  | .str i, .str j => if i.length + j.length ≤ 100000 then .ok (.str (i ++ j)) else .bad
  | .tup xs, .tup ys => if xs.length + ys.length ≤ 100000 ∧ xs.length ≠ 0 then .ok (.tup (xs ++ ys)) else .bad
  | _, _ => .bad
def pCat : PV → PV → Rs PV
  | .lst xs, .lst ys => if xs.length + ys.length ≤ 100000 then .ok (.lst (xs ++ ys)) else .bad
  | _, _ => .bad
theorem S_app (i j : List Nat) : S i ++ S j = S (i ++ j) := by
  show (⟨_⟩ : Str) = ⟨_⟩
  simp [S]
theorem p_add : OpP X (binaryOp .Add) pAdd := ⟨_, op_add.or (op_add_str.or op_catT), fun W σ p q v w H0 H Q r1 r2 sm hh => by
  cases p with
  | int i =>
    cases q with
    | int j => exact .inl ⟨i, j, r1, r2, pV sm hh rfl⟩
    | _ => exact False.elim hh
  | str i =>
    cases q with
    | str j =>
      obtain ⟨hl, hh⟩ := post_if hh
      · skip
        refine .inr (.inl ⟨S i, S j, r1, r2, by rw [S_len, S_len]; exact lim hl, ?_⟩)
        rw [S_app]
        exact pV sm hh rfl
    | _ => exact False.elim hh
  | tup xs =>
    cases q with
    | tup ys =>
      obtain ⟨hl, hh⟩ := post_if hh
      · skip
        obtain ⟨a, vs, rfl, h1, rs1⟩ := r1
        obtain ⟨b, ws, rfl, h2, rs2⟩ := r2
        refine .inr (.inr ⟨a, b, vs, ws, rfl, rfl, SqT.of (sm _ _ h1), SqT.of (sm _ _ h2), fun e => ?_, by rw [rs1.len, rs2.len]; exact lim hl.1, ?_⟩)
        · have := rs1.len
          rw [e] at this
          exact hl.2 this.symm
        · refine ⟨fun e => ?_, fun e p hp => ?_⟩
          · have e2 : ys = [] := by
              have := rs2.len
              rw [e] at this
              exact List.eq_nil_of_length_eq_zero this.symm
            subst e2
            exact pV sm hh ⟨a, vs, rfl, h1, by rw [List.append_nil]; exact rs1⟩
          · have gn := Gr.new (o := .tup (vs ++ ws)) sm hp
            exact hh _ _ gn _ ⟨p, _, rfl, upd_same, (rs1.mono gn.a).app (rs2.mono gn.a)⟩
    | _ => exact False.elim hh
  | _ => exact False.elim hh⟩
theorem p_cat : OpO X (binaryOp .Add) pCat := ⟨_, op_cat, fun W σ p q v w H0 Hs H Q sHs r1 r2 sm hh => by
  cases p with
  | lst xs =>
    cases q with
    | lst ys =>
      obtain ⟨hl, hh⟩ := post_if hh
      · skip
        obtain ⟨a, vs, rfl, h1, rs1⟩ := r1
        obtain ⟨b, ws, rfl, h2, rs2⟩ := r2
        refine ⟨a, b, vs, ws, rfl, rfl, sm _ _ h1, sm _ _ h2, by rw [rs1.len, rs2.len]; exact lim hl, fun p hp => ?_⟩
        have gn := Gr.newO (o := .lst (vs ++ ws)) sm hp
        exact (hh _ _ gn).2 p (none_back sHs hp) (none_back sm hp) ⟨_, upd_same, rs1.app rs2⟩
    | _ => exact False.elim hh
  | _ => exact False.elim hh⟩
/-- a list times an int -/
def pRep : PV → PV → Rs PV
  | .lst xs, .int k => if -1000000 ≤ k ∧ k ≤ 1000000 ∧ xs.length * k.toNat ≤ 100000 then .ok (.lst (List.replicate k.toNat xs).flatten) else .bad
  | _, _ => .bad
theorem Reps.flat {K : PySem.W.Frag} {H : Hp} {xs : List PV} {vs : List V} (h : Reps K H xs vs) : ∀ n : Nat, Reps K H (List.replicate n xs).flatten (List.replicate n vs).flatten
  | 0 => trivial
  | n + 1 => by
    rw [List.replicate_succ, List.replicate_succ, List.flatten_cons, List.flatten_cons]
    exact h.app (Reps.flat h n)
theorem p_rep : OpO X (binaryOp .Mult) pRep := ⟨_, op_rep, fun W σ p q v w H0 Hs H Q sHs r1 r2 sm hh => by
  cases p with
  | lst xs =>
    cases q with
    | int k =>
      obtain ⟨hl, hh⟩ := post_if hh
      · skip
        obtain ⟨a, vs, rfl, h1, rs1⟩ := r1
        refine ⟨a, k, vs, rfl, r2, sm _ _ h1, by omega, by omega, by rw [rs1.len]; exact lim hl.2.2, fun p hp => ?_⟩
        have gn := Gr.newO (o := .lst (List.replicate k.toNat vs).flatten) sm hp
        exact (hh _ _ gn).2 p (none_back sHs hp) (none_back sm hp) ⟨_, upd_same, rs1.flat _⟩
    | _ => exact False.elim hh
  | _ => exact False.elim hh⟩
def pMul : PV → PV → Rs PV := iC (fun i j => (-1000000000000000000 ≤ i ∧ i ≤ 1000000000000000000) ∨ (-1000000000000000000 ≤ j ∧ j ≤ 1000000000000000000)) fun i j => .int (i * j)
theorem p_mul : OpP X (binaryOp .Mult) pMul := iC_ok op_mul (fun i j h => by
  have : (2:Int)^64 = 18446744073709551616 := by decide
  unfold CMul
  omega) fun _ _ _ => rfl
end
end Lh.P
set_option Elab.async false
set_option linter.all false
set_option maxRecDepth 100000
set_option maxHeartbeats 4000000
/-! Items, slices, fields, tests of None and of membership, built-in functions. -/
namespace Lh.P
open PySem PySem.Spec PyProof.Rows L2 SX
section
variable {X : Cx} {W : WX} {V : List Nat} {e a b c : Expr} {es : List Expr} {pos : Pos}
/-! ### is None, in -/
def pIsN : PV → PV → Rs PV
  | .non, .non => .ok (.bl true)
  | _, .non => .ok (.bl false)
  | _, _ => .bad
def pNotN : PV → PV → Rs PV
  | .non, .non => .ok (.bl false)
  | _, .non => .ok (.bl true)
  | _, _ => .bad
theorem rep_non {K : PySem.W.Frag} {H : Hp} {p : PV} {v : L2.V} (r : Rep K H p v) : (v = .non ↔ p = .non) := by
  cases p with
  | non => exact ⟨fun _ => rfl, fun _ => r⟩
  | bl b => cases (show v = .bl b from r); exact ⟨nofun, nofun⟩
  | int b => cases (show v = .int b from r); exact ⟨nofun, nofun⟩
  | str b => cases (show v = .str (S b) from r); exact ⟨nofun, nofun⟩
  | tup xs => obtain ⟨a, vs, rfl, _⟩ := r; exact ⟨nofun, nofun⟩
  | lst xs => obtain ⟨a, vs, rfl, _⟩ := r; exact ⟨nofun, nofun⟩
  | ins C xs => obtain ⟨a, _, vs, rfl, _⟩ := r; exact ⟨nofun, nofun⟩
  | scr xs => obtain ⟨a, rfl, _⟩ := r; exact ⟨nofun, nofun⟩
  | exr a C d fs => obtain ⟨rfl, _⟩ := r; exact ⟨nofun, nofun⟩
  | dic xs => obtain ⟨a, vs, rfl, _⟩ := r; exact ⟨nofun, nofun⟩
  | tun xs => obtain ⟨a, vs, rfl, _⟩ := r; exact ⟨nofun, nofun⟩
theorem p_isN : OpP X (compareOp .Is) pIsN := ⟨_, op_isN, fun W σ p q v w H0 H Q r1 r2 sm hh => by
  cases q with
  | non =>
    refine ⟨r2, ?_⟩
    cases p with
    | non => rw [decide_eq_true ((rep_non r1).mpr rfl)]; exact pV sm hh rfl
    | _ => rw [decide_eq_false (fun e => nomatch (rep_non r1).mp e)]; exact pV sm hh rfl
  | _ => exact False.elim (by cases p <;> exact hh)⟩
theorem p_notN : OpP X (compareOp .IsNot) pNotN := ⟨_, op_notN, fun W σ p q v w H0 H Q r1 r2 sm hh => by
  cases q with
  | non =>
    refine ⟨r2, ?_⟩
    cases p with
    | non => rw [decide_eq_true ((rep_non r1).mpr rfl)]; exact pV sm hh rfl
    | _ => rw [decide_eq_false (fun e => nomatch (rep_non r1).mp e)]; exact pV sm hh rfl
  | _ => exact False.elim (by cases p <;> exact hh)⟩
/-- x in a list (data of any depth), in a tuple of flat values; a sign in a text -/
def flatP : PV → Bool
  | .non => true
  | .bl _ => true
  | .int _ => true
  | .str _ => true
  | _ => false
def eqF : PV → PV → Bool
  | .non, .non => true
  | .bl a, .bl b => a == b
  | .bl a, .int b => (if a then 1 else 0) == b
  | .int a, .bl b => a == (if b then 1 else 0)
  | .int a, .int b => a == b
  | .str a, .str b => a == b
  | _, _ => false
theorem flat_of {K : PySem.W.Frag} {H : Hp} {p : PV} {v : L2.V} (r : Rep K H p v) (h : flatP p = true) : flatV v = true := by
  cases p with
  | non => rw [show v = .non from r]; rfl
  | bl b => rw [show v = .bl b from r]; rfl
  | int b => rw [show v = .int b from r]; rfl
  | str b => rw [show v = .str (S b) from r]; rfl
  | _ => cases h
theorem S_inj {x y : List Nat} (h : S x = S y) : x = y := by rw [← codes x, ← codes y, h]
theorem eqF_of {K : PySem.W.Frag} {H : Hp} {p q : PV} {v w : L2.V} (r1 : Rep K H p v) (r2 : Rep K H q w) (h1 : flatP p = true) (h2 : flatP q = true) : eqV v w = eqF p q := by
  cases p with
  | non => cases (show v = .non from r1); cases q with
    | non => cases (show w = .non from r2); rfl
    | bl b => cases (show w = .bl b from r2); rfl
    | int b => cases (show w = .int b from r2); rfl
    | str b => cases (show w = .str (S b) from r2); rfl
    | _ => cases h2
  | bl b' => cases (show v = .bl b' from r1); cases q with
    | non => cases (show w = .non from r2); rfl
    | bl b => cases (show w = .bl b from r2); rfl
    | int b => cases (show w = .int b from r2); rfl
    | str b => cases (show w = .str (S b) from r2); rfl
    | _ => cases h2
  | int b' => cases (show v = .int b' from r1); cases q with
    | non => cases (show w = .non from r2); rfl
    | bl b => cases (show w = .bl b from r2); rfl
    | int b => cases (show w = .int b from r2); rfl
    | str b => cases (show w = .str (S b) from r2); rfl
    | _ => cases h2
  | str b' => cases (show v = .str (S b') from r1); cases q with
    | non => cases (show w = .non from r2); rfl
    | bl b => cases (show w = .bl b from r2); rfl
    | int b => cases (show w = .int b from r2); rfl
    | str b =>
      cases (show w = .str (S b) from r2)
      show (S b' == S b) = (b' == b)
      rw [Bool.eq_iff_iff, beq_iff_eq, beq_iff_eq]
      exact ⟨S_inj, fun e => by rw [e]⟩
    | _ => cases h2
  | _ => cases h1
theorem any_eqF {K : PySem.W.Frag} {H : Hp} {p : PV} {v : L2.V} (r : Rep K H p v) (hp : flatP p = true) : ∀ {xs : List PV} {vs : List L2.V}, Reps K H xs vs → xs.all flatP = true → vs.all flatV = true ∧ inV v vs = xs.any fun y => eqF y p
  | [], [], _, _ => ⟨rfl, rfl⟩
  | [], _ :: _, h, _ => False.elim h
  | _ :: _, [], h, _ => False.elim h
  | x :: xs, w :: ws, ⟨h1, h2⟩, hx => by
    rw [List.all_cons, Bool.and_eq_true] at hx
    obtain ⟨i1, i2⟩ := any_eqF r hp h2 hx.2
    refine ⟨by rw [List.all_cons, flat_of h1 hx.1, i1]; rfl, ?_⟩
    show (w :: ws).any _ = _
    rw [List.any_cons, List.any_cons, eqF_of h1 r hx.1 hp]
    congr 1
def inB (p q : PV) : Option Bool := match q with
  | .tup xs => if flatP p && xs.all flatP then some (xs.any fun y => eqF y p) else none
  | .lst _ => match dat p, dat q with
    | some d, some (.list ds) => if SeqAt.shaped d && SeqAt.shaped (.list ds) then some (ds.any fun z => PyData.eqv z d) else none
    | _, _ => none
  | .str z => match p with
    | .str [c] => some (decide (c ∈ z))
    | _ => none
  | _ => none
def pIn (p q : PV) : Rs PV := match inB p q with
  | some b => .ok (.bl b)
  | none => .bad
def pNotIn (p q : PV) : Rs PV := match inB p q with
  | some b => .ok (.bl (!b))
  | none => .bad
theorem in_core {p q : PV} {k : Bool} {v w : L2.V} {H0 H : Hp} (hk : inB p q = some k) (r1 : Rep X.K H0 p v) (r2 : Rep X.K H0 q w) (sm : Same H0 H) :
    (∃ t vs, w = .ref t ∧ SqT X.K H t vs ∧ flatV v = true ∧ vs.all flatV = true ∧ inV v vs = k) ∨ (∃ d ds, Dp X.K H v d ∧ Dp X.K H w (.list ds) ∧ SeqAt.shaped d = true ∧ SeqAt.shaped (.list ds) = true ∧ (ds.any fun z => PyData.eqv z d) = k) ∨
      ∃ (c : Nat) (z : Str), v = .str ⟨#[c]⟩ ∧ w = .str z ∧ decide (c ∈ z.cps.toList) = k := by
  unfold inB at hk
  cases q with
  | tup xs =>
    dsimp only at hk
    split at hk
    · rename_i hc
      rw [Bool.and_eq_true] at hc
      cases hk
      obtain ⟨t, vs, rfl, h, rs⟩ := r2
      obtain ⟨i1, i2⟩ := any_eqF r1 hc.1 rs hc.2
      exact .inl ⟨t, vs, rfl, SqT.of (sm _ _ h), flat_of r1 hc.1, i1, i2⟩
    · cases hk
  | lst xs =>
    dsimp only at hk
    cases hd : dat p with
    | none => rw [hd] at hk; cases hk
    | some d =>
      cases hq : dat (.lst xs) with
      | none => rw [hd, hq] at hk; cases hk
      | some y =>
        cases y with
        | list ds =>
          rw [hd, hq] at hk
          dsimp only at hk
          split at hk
          · rename_i hc
            rw [Bool.and_eq_true] at hc
            cases hk
            exact .inr (.inl ⟨d, ds, (dp_of _ _ _ r1 hd).same sm, (dp_of _ _ _ r2 hq).same sm, hc.1, hc.2, rfl⟩)
          · cases hk
        | _ => rw [hd, hq] at hk; cases hk
  | str z =>
    dsimp only at hk
    cases p with
    | str s =>
      match s, hk with
      | [c], hk =>
        cases hk
        exact .inr (.inr ⟨c, S z, r1, r2, by rw [codes]⟩)
    | _ => cases hk
  | _ => cases hk
theorem p_in (hu : X.A.units + 65 < cLine) : OpP X (compareOp .In) pIn := ⟨_, op_in_seq.or ((op_inD hu).or op_in_sign), fun W σ p q v w H0 H Q r1 r2 sm hh => by
  unfold pIn at hh
  cases hk : inB p q with
  | none => rw [hk] at hh; exact False.elim hh
  | some k =>
    rw [hk] at hh
    rcases in_core hk r1 r2 sm with ⟨t, vs, rfl, h1, h2, h3, h4⟩ | ⟨d, ds, h1, h2, h3, h4, h5⟩ | ⟨c, z, h1, h2, h3⟩
    · exact .inl ⟨t, vs, rfl, .inr h1, h2, h3, by rw [h4]; exact pV sm hh rfl⟩
    · exact .inr (.inl ⟨d, ds, h1, h2, h3, h4, by rw [h5]; exact pV sm hh rfl⟩)
    · exact .inr (.inr ⟨c, z, h1, h2, by rw [h3]; exact pV sm hh rfl⟩)⟩
theorem p_notIn (hu : X.A.units + 65 < cLine) : OpP X (compareOp .NotIn) pNotIn := ⟨_, op_notIn_seq.or ((op_notInD hu).or op_notIn_sign), fun W σ p q v w H0 H Q r1 r2 sm hh => by
  unfold pNotIn at hh
  cases hk : inB p q with
  | none => rw [hk] at hh; exact False.elim hh
  | some k =>
    rw [hk] at hh
    rcases in_core hk r1 r2 sm with ⟨t, vs, rfl, h1, h2, h3, h4⟩ | ⟨d, ds, h1, h2, h3, h4, h5⟩ | ⟨c, z, h1, h2, h3⟩
    · exact .inl ⟨t, vs, rfl, .inr h1, h2, h3, by rw [if_pos rfl, h4]; exact pV sm hh rfl⟩
    · exact .inr (.inl ⟨d, ds, h1, h2, h3, h4, by rw [h5]; exact pV sm hh rfl⟩)
    · exact .inr (.inr ⟨c, z, h1, h2, by rw [h3]; exact pV sm hh rfl⟩)⟩
/-! ### items -/
def ofO {α : Type} : Option α → Rs α
  | some a => .ok a
  | none => .bad
def pIx : PV → PV → Rs PV
  | .tup xs, .int i => ofO (atI xs i)
  | .tun xs, .int i => ofO (atI xs i)
  | .lst xs, .int i => ofO (atI xs i)
  | .str s, .int i => if s.length ≤ 100000 then ofO ((atI s i).map fun c => .str [c]) else .bad
  | .scr ns, .int i => ofO ((atI ns i).map fun n => .int n)
  | _, _ => .bad
theorem atI_reps {K : PySem.W.Frag} {H : Hp} {xs : List PV} {vs : List L2.V} {i : Int} {x : PV} (r : Reps K H xs vs) (h : atI xs i = some x) : ∃ v, atI vs i = some v ∧ Rep K H x v := by
  unfold atI at h ⊢
  rw [r.len]
  cases hj : ixN xs.length i with
  | none => rw [hj] at h; cases h
  | some j =>
    rw [hj] at h
    exact r.get h
theorem x_ix {fa fb : Env → Rs PV} (ha : EX X W V a fa) (hb : EX X W V b fb) (hs : PlainIx b) : EX X W V (.Subscript a b pos) (b2 fa fb pIx) := fun Γ σ H0 H Q sh sm q => by
  refine PE.to (pe_ix ix_seq pe_of pe_of hs) (two ha hb sh sm q fun x y v w H1 H2 g1 r1 r2 q1 => ?_)
  cases y with
  | int i =>
    cases x with
    | tup xs =>
      obtain ⟨t, vs, rfl, h, rs⟩ := r1
      cases hx : atI xs i with
      | none => exact False.elim (by rw [show pIx (.tup xs) (.int i) = ofO (atI xs i) from rfl, hx] at q1; exact q1)
      | some p =>
        rw [show pIx (.tup xs) (.int i) = ofO (atI xs i) from rfl, hx] at q1
        obtain ⟨u, hu, ru⟩ := atI_reps rs hx
        exact .inr (.inl ⟨t, vs, i, u, rfl, r2, SqT.of (g1.c _ _ h), hu, pV g1.c q1 ru⟩)
    | tun xs =>
      obtain ⟨t, vs, rfl, ⟨o, h, _⟩, rs⟩ := r1
      cases hx : atI xs i with
      | none => exact False.elim (by rw [show pIx (.tun xs) (.int i) = ofO (atI xs i) from rfl, hx] at q1; exact q1)
      | some p =>
        rw [show pIx (.tun xs) (.int i) = ofO (atI xs i) from rfl, hx] at q1
        obtain ⟨u, hu, ru⟩ := atI_reps rs hx
        exact .inr (.inl ⟨t, vs, i, u, rfl, r2, .inl (.inr ⟨o, g1.c _ _ h⟩), hu, pV g1.c q1 ru⟩)
    | lst xs =>
      obtain ⟨t, vs, rfl, h, rs⟩ := r1
      cases hx : atI xs i with
      | none => exact False.elim (by rw [show pIx (.lst xs) (.int i) = ofO (atI xs i) from rfl, hx] at q1; exact q1)
      | some p =>
        rw [show pIx (.lst xs) (.int i) = ofO (atI xs i) from rfl, hx] at q1
        obtain ⟨u, hu, ru⟩ := atI_reps rs hx
        exact .inl ⟨t, vs, i, u, rfl, r2, SqL.of (g1.c _ _ h), hu, pV g1.c q1 ru⟩
    | str s =>
      obtain ⟨hl, q1⟩ := post_if q1
      cases hx : atI s i with
      | none => exact False.elim (by rw [hx] at q1; exact q1)
      | some c =>
        rw [hx] at q1
        exact .inr (.inr ⟨S s, i, c, r1, r2, by rw [S_len]; exact lim hl, by rw [codes]; exact hx, pV g1.c (show Post X.K W σ (gE X.K Q) H1 H2 (.ok (.str [c])) from q1) rfl⟩)
    | scr ns =>
      obtain ⟨t, rfl, h⟩ := r1
      cases hx : atI ns i with
      | none => exact False.elim (by rw [show pIx (.scr ns) (.int i) = ofO ((atI ns i).map fun n => .int n) from rfl, hx] at q1; exact q1)
      | some n =>
        rw [show pIx (.scr ns) (.int i) = ofO ((atI ns i).map fun n => .int n) from rfl, hx] at q1
        refine .inl ⟨t, _, i, .int n, rfl, r2, g1.c.seq h, ?_, pV g1.c (show Post X.K W σ (gE X.K Q) H1 H2 (.ok (.int n)) from q1) rfl⟩
        unfold atI at hx ⊢
        rw [List.length_map]
        cases hj : ixN ns.length i with
        | none => rw [hj] at hx; cases hx
        | some j =>
          rw [hj] at hx
          exact map_get hx
    | _ => exact False.elim q1
  | _ => exact False.elim (by cases x <;> exact q1)
/-! ### fields -/
def pFld (C : Addr) (f : Str) : PV → Rs PV
  | .ins D fs => if D = C then ofO (fs.lookup f) else .bad
  | _ => .bad
theorem lookup_rep {K : PySem.W.Frag} {H : Hp} {f : Str} {x : PV} : ∀ {fs : List (Str × PV)} {gs : List (Str × L2.V)}, RepF K H fs gs → fs.lookup f = some x → ∃ v, gs.lookup f = some v ∧ Rep K H x v
  | [], [], _, h => by cases h
  | [], _ :: _, z, _ => False.elim z
  | _ :: _, [], z, _ => False.elim z
  | (g, y) :: fs, (g', v) :: gs, ⟨e, r, rs⟩, h => by
    subst e
    rw [List.lookup_cons] at h ⊢
    cases hb : f == g with
    | true => rw [hb] at h; cases h; exact ⟨v, rfl, r⟩
    | false => rw [hb] at h; exact lookup_rep rs h
theorem x_fld {C : Addr} {f : Str} {fe : Env → Rs PV} (he : EX X W V e fe) (cl : Cls X.K C) (na : NoAttr X.K C f) (hb : attributeBase e f X.env (eval e X.env) = eval e X.env := by rfl) : EX X W V (.Attribute e f pos) (b1 fe (pFld C f)) := fun Γ σ H0 H Q sh sm q => by
  refine PE.to (pe_fld pe_of hb) (he Γ σ H0 H _ sh sm (q.step.mono fun x H1 H2 g q1 v r => ?_))
  cases x with
  | ins D fs =>
    obtain ⟨e, q2⟩ := post_if q1
    subst e
    obtain ⟨a, dx, gs, rfl, h, rs⟩ := r
    cases hx : fs.lookup f with
    | none => rw [hx] at q2; exact False.elim q2
    | some p =>
      rw [hx] at q2
      obtain ⟨u, hu, ru⟩ := lookup_rep rs hx
      exact ⟨a, D, dx, gs, u, rfl, g.c _ _ h, cl, na, hu, pV g.c q2 ru⟩
  | _ => exact False.elim q1
/-! ### built-in functions -/
def CallP (X : Cx) (f : Value) (g : List PV → Rs PV) : Prop := ∃ r, CallR X f r ∧ ∀ (W : WX) σ ps vs H0 H Q, Reps X.K H0 ps vs → Same H0 H → Post X.K W σ (gE X.K Q) H0 H (g ps) → r vs H Q
def CallO (X : Cx) (f : Value) (g : List PV → Rs PV) : Prop := ∃ r, CallR X f r ∧ ∀ (W : WX) σ ps vs H0 Hs H Q, Same Hs H → Reps X.K H0 ps vs → Same H0 H → Post X.K W σ (gO X.K Hs Q) H0 H (g ps) → r vs H Q
variable {x : Str} {p : Pos} {id T : String} {g : List PV → Rs PV} {fa : Env → Rs (List PV)}
def bC (f : Env → Rs (List PV)) (g : List PV → Rs PV) : Env → Rs PV := fun Γ => (f Γ).bind g
theorem x_callB (hc : CallP X (.builtin id) g) (hm : X.mg x = none) (hv : bootBuiltins x = some (.builtin id)) (ha : AX X W V (e :: es) fa) (hg : Gl X x := by rfl) (hn : x ≠ "__name__" := by decide) (hdb : (x == ("__debug__" : Str)) = false := by decide)
    (he : starEach (e :: es) X.env = (false, eval e X.env) :: starEach es X.env := by rfl) (hpl : (backTo pos (starEach es X.env)).any (·.1) = false := by rfl) : EX X W V (.Call (.Name x p) (e :: es) [] pos) (bC fa g) := fun Γ σ H0 H Q sh sm q => by
  obtain ⟨r, hr, hp⟩ := hc
  exact PE.to (pe_callB hr hg hm hv pa_of hn hdb he hpl) (ha Γ σ H0 H _ sh sm (q.step.mono fun ps H1 H2 g1 q1 vs rs => hp W σ ps vs H1 H2 Q rs g1.c q1))
theorem x_callTy (hc : CallP X (.type T) g) (hm : X.mg x = none) (hv : bootBuiltins x = some (.type T)) (ha : AX X W V (e :: es) fa) (hg : Gl X x := by rfl) (hn : x ≠ "__name__" := by decide) (hdb : (x == ("__debug__" : Str)) = false := by decide)
    (he : starEach (e :: es) X.env = (false, eval e X.env) :: starEach es X.env := by rfl) (hpl : (backTo pos (starEach es X.env)).any (·.1) = false := by rfl) : EX X W V (.Call (.Name x p) (e :: es) [] pos) (bC fa g) := fun Γ σ H0 H Q sh sm q => by
  obtain ⟨r, hr, hp⟩ := hc
  exact PE.to (pe_callTy hr hg hm hv pa_of hn hdb he hpl) (ha Γ σ H0 H _ sh sm (q.step.mono fun ps H1 H2 g1 q1 vs rs => hp W σ ps vs H1 H2 Q rs g1.c q1))
theorem o_callTy (hc : CallO X (.type T) g) (hm : X.mg x = none) (hv : bootBuiltins x = some (.type T)) (ha : AX X W V (e :: es) fa) (hg : Gl X x := by rfl) (hn : x ≠ "__name__" := by decide) (hdb : (x == ("__debug__" : Str)) = false := by decide)
    (he : starEach (e :: es) X.env = (false, eval e X.env) :: starEach es X.env := by rfl) (hpl : (backTo pos (starEach es X.env)).any (·.1) = false := by rfl) : OX X W V (.Call (.Name x p) (e :: es) [] pos) (bC fa g) := fun Γ σ H0 H Q sh sm q => by
  obtain ⟨r, hr, hp⟩ := hc
  exact PE.to (pe_callTy hr hg hm hv pa_of hn hdb he hpl) (ha Γ σ H0 H _ sh sm (q.step.mono fun ps H1 H2 g1 q1 vs rs => hp W σ ps vs H1 H H2 Q g1.b rs g1.c q1))
theorem o_callB (hc : CallO X (.builtin id) g) (hm : X.mg x = none) (hv : bootBuiltins x = some (.builtin id)) (ha : AX X W V (e :: es) fa) (hg : Gl X x := by rfl) (hn : x ≠ "__name__" := by decide) (hdb : (x == ("__debug__" : Str)) = false := by decide)
    (he : starEach (e :: es) X.env = (false, eval e X.env) :: starEach es X.env := by rfl) (hpl : (backTo pos (starEach es X.env)).any (·.1) = false := by rfl) : OX X W V (.Call (.Name x p) (e :: es) [] pos) (bC fa g) := fun Γ σ H0 H Q sh sm q => by
  obtain ⟨r, hr, hp⟩ := hc
  exact PE.to (pe_callB hr hg hm hv pa_of hn hdb he hpl) (ha Γ σ H0 H _ sh sm (q.step.mono fun ps H1 H2 g1 q1 vs rs => hp W σ ps vs H1 H H2 Q g1.b rs g1.c q1))
def pLen : List PV → Rs PV
  | [.lst xs] => .ok (.int xs.length)
  | [.tup xs] => .ok (.int xs.length)
  | [.tun xs] => .ok (.int xs.length)
  | [.str s] => if s.length ≤ 100000 then .ok (.int s.length) else .bad
  | [.scr ns] => .ok (.int ns.length)
  | _ => .bad
theorem reps1 {K : PySem.W.Frag} {H : Hp} {p : PV} {vs : List L2.V} (h : Reps K H [p] vs) : ∃ v, vs = [v] ∧ Rep K H p v := by
  match vs, h with
  | [v], h => exact ⟨v, rfl, h.1⟩
theorem reps2 {K : PySem.W.Frag} {H : Hp} {p q : PV} {vs : List L2.V} (h : Reps K H [p, q] vs) : ∃ v w, vs = [v, w] ∧ Rep K H p v ∧ Rep K H q w := by
  match vs, h with
  | [v, w], h => exact ⟨v, w, rfl, h.1, h.2.1⟩
theorem c_len : CallP X (.builtin "len") pLen := ⟨_, call_len_seq.or call_len_str, fun W σ ps vs H0 H Q rs sm hh => by
  match ps, hh with
  | [.lst xs], hh =>
    obtain ⟨v, rfl, r⟩ := reps1 rs
    obtain ⟨a, ws, rfl, h, rr⟩ := r
    exact .inl ⟨a, ws, rfl, .inl (SqL.of (sm _ _ h)), by rw [rr.len]; exact pV sm hh rfl⟩
  | [.tup xs], hh =>
    obtain ⟨v, rfl, r⟩ := reps1 rs
    obtain ⟨a, ws, rfl, h, rr⟩ := r
    exact .inl ⟨a, ws, rfl, .inr (SqT.of (sm _ _ h)), by rw [rr.len]; exact pV sm hh rfl⟩
  | [.tun xs], hh =>
    obtain ⟨v, rfl, r⟩ := reps1 rs
    obtain ⟨a, ws, rfl, ⟨o, h, _⟩, rr⟩ := r
    exact .inl ⟨a, ws, rfl, .inr (.inl (.inr ⟨o, sm _ _ h⟩)), by rw [rr.len]; exact pV sm hh rfl⟩
  | [.scr ns], hh =>
    obtain ⟨v, rfl, r⟩ := reps1 rs
    obtain ⟨a, rfl, h⟩ := r
    exact .inl ⟨a, _, rfl, .inl (sm.seq h), by rw [List.length_map]; exact pV sm hh rfl⟩
  | [.str s], hh =>
    obtain ⟨v, rfl, r⟩ := reps1 rs
    obtain ⟨hl, hh⟩ := post_if hh
    exact .inr ⟨S s, by rw [show v = .str (S s) from r], by rw [S_len]; exact lim hl, by rw [S_len]; exact pV sm hh rfl⟩⟩
def pInt : List PV → Rs PV
  | [.int i] => .ok (.int i)
  | [.bl b] => .ok (.int (if b then 1 else 0))
  | _ => .bad
theorem c_int : CallP X (.type "int") pInt := ⟨_, call_int1, fun W σ ps vs H0 H Q rs sm hh => by
  match ps, hh with
  | [.int i], hh =>
    obtain ⟨v, rfl, r⟩ := reps1 rs
    exact .inl ⟨i, by rw [show v = .int i from r], pV sm hh rfl⟩
  | [.bl i], hh =>
    obtain ⟨v, rfl, r⟩ := reps1 rs
    exact .inr ⟨i, by rw [show v = .bl i from r], pV sm hh rfl⟩⟩
def pList : List PV → Rs PV
  | [.lst xs] => .ok (.lst xs)
  | [.tup xs] => .ok (.lst xs)
  | [.tun xs] => .ok (.lst xs)
  | _ => .bad
theorem c_list : CallO X (.type "list") pList := ⟨_, call_list_of, fun W σ ps vs H0 Hs H Q sHs rs sm hh => by
  match ps, hh with
  | [.lst xs], hh =>
    obtain ⟨v, rfl, r⟩ := reps1 rs
    obtain ⟨a, ws, rfl, h, rr⟩ := r
    exact ⟨a, ws, rfl, .inl (SqL.of (sm _ _ h)), fun l hl => (hh _ _ (Gr.newO sm hl)).2 l (none_back sHs hl) (none_back sm hl) ⟨ws, upd_same, rr⟩⟩
  | [.tup xs], hh =>
    obtain ⟨v, rfl, r⟩ := reps1 rs
    obtain ⟨a, ws, rfl, h, rr⟩ := r
    exact ⟨a, ws, rfl, .inr (SqT.of (sm _ _ h)), fun l hl => (hh _ _ (Gr.newO sm hl)).2 l (none_back sHs hl) (none_back sm hl) ⟨ws, upd_same, rr⟩⟩
  | [.tun xs], hh =>
    obtain ⟨v, rfl, r⟩ := reps1 rs
    obtain ⟨a, ws, rfl, ⟨o, h, _⟩, rr⟩ := r
    exact ⟨a, ws, rfl, .inr (.inl (.inr ⟨o, sm _ _ h⟩)), fun l hl => (hh _ _ (Gr.newO sm hl)).2 l (none_back sHs hl) (none_back sm hl) ⟨ws, upd_same, rr⟩⟩⟩
def pTuple : List PV → Rs PV
  | [.lst xs] => .ok (.tup xs)
  | [.tup xs] => .ok (.tup xs)
  | _ => .bad
theorem c_tuple : CallP X (.type "tuple") pTuple := ⟨_, call_tuple_of, fun W σ ps vs H0 H Q rs sm hh => by
  match ps, hh with
  | [.lst xs], hh =>
    obtain ⟨v, rfl, r⟩ := reps1 rs
    obtain ⟨a, ws, rfl, h, rr⟩ := r
    refine ⟨a, ws, rfl, .inl ⟨SqL.of (sm _ _ h), fun l hl => ?_⟩⟩
    have gn := Gr.new (o := .tup ws) sm hl
    exact hh _ _ gn _ ⟨l, ws, rfl, upd_same, rr.mono gn.a⟩
  | [.tup xs], hh =>
    obtain ⟨v, rfl, r⟩ := reps1 rs
    obtain ⟨a, ws, rfl, h, rr⟩ := r
    exact ⟨a, ws, rfl, .inr ⟨SqT.of (sm _ _ h), pV sm hh ⟨a, ws, rfl, h, rr⟩⟩⟩⟩
/-- the ints, the truth values of a list -/
def asInts : List PV → Option (List Int)
  | [] => some []
  | .int i :: r => (asInts r).map (i :: ·)
  | _ :: _ => none
theorem asInts_eq : ∀ {xs : List PV} {ns : List Int}, asInts xs = some ns → xs = ns.map PV.int
  | [], ns, h => by cases h; rfl
  | .int i :: r, ns, h => by
    unfold asInts at h
    cases hr : asInts r with
    | none => rw [hr] at h; cases h
    | some m => rw [hr] at h; cases h; rw [asInts_eq hr]; rfl
  | .non :: _, _, h => by cases h
  | .bl _ :: _, _, h => by cases h
  | .str _ :: _, _, h => by cases h
  | .tup _ :: _, _, h => by cases h
  | .lst _ :: _, _, h => by cases h
  | .ins _ _ :: _, _, h => by cases h
  | .scr _ :: _, _, h => by cases h
  | .exr _ _ _ _ :: _, _, h => by cases h
@[simp] theorem asInts_map (ns : List Int) : asInts (ns.map PV.int) = some ns := by
  induction ns with
  | nil => rfl
  | cons a l ih => rw [List.map_cons]; unfold asInts; rw [ih]; rfl
def asBls : List PV → Option (List Bool)
  | [] => some []
  | .bl i :: r => (asBls r).map (i :: ·)
  | _ :: _ => none
theorem asBls_eq : ∀ {xs : List PV} {ns : List Bool}, asBls xs = some ns → xs = ns.map PV.bl
  | [], ns, h => by cases h; rfl
  | .bl i :: r, ns, h => by
    unfold asBls at h
    cases hr : asBls r with
    | none => rw [hr] at h; cases h
    | some m => rw [hr] at h; cases h; rw [asBls_eq hr]; rfl
  | .non :: _, _, h => by cases h
  | .int _ :: _, _, h => by cases h
  | .str _ :: _, _, h => by cases h
  | .tup _ :: _, _, h => by cases h
  | .lst _ :: _, _, h => by cases h
  | .ins _ _ :: _, _, h => by cases h
  | .scr _ :: _, _, h => by cases h
  | .exr _ _ _ _ :: _, _, h => by cases h
@[simp] theorem asBls_map (ns : List Bool) : asBls (ns.map PV.bl) = some ns := by
  induction ns with
  | nil => rfl
  | cons a l ih => rw [List.map_cons]; unfold asBls; rw [ih]; rfl
theorem Reps.bls {K : PySem.W.Frag} {H : Hp} : ∀ {ns : List Bool} {vs : List L2.V}, Reps K H (ns.map PV.bl) vs → vs = ns.map L2.V.bl
  | [], [], _ => rfl
  | [], _ :: _, h => False.elim h
  | _ :: _, [], h => False.elim h
  | n :: ns, v :: vs, h => by
    obtain ⟨h1, h2⟩ := h
    have h1 : v = L2.V.bl n := h1
    rw [List.map_cons, Reps.bls h2, h1]
def intsOf (k : List Int → Rs PV) : List PV → Rs PV
  | [.lst xs] => match asInts xs with
    | some ns => k ns
    | none => .bad
  | _ => .bad
def blsOf (k : List Bool → Rs PV) : List PV → Rs PV
  | [.lst xs] => match asBls xs with
    | some ns => k ns
    | none => .bad
  | _ => .bad
theorem intsOf_ok {k : List Int → Rs PV} {good : PV → Hp → Hp → Prop} {σ : L2.St} {H0 H : Hp} {ps : List PV} {vs : List L2.V} (rs : Reps X.K H0 ps vs) (hh : Post X.K W σ good H0 H (intsOf k ps)) : ∃ a ns, vs = [.ref a] ∧ H0 a = some (.lst (ns.map L2.V.int)) ∧ Post X.K W σ good H0 H (k ns) := by
  match ps, hh with
  | [.lst xs], hh =>
    obtain ⟨v, rfl, r⟩ := reps1 rs
    obtain ⟨a, ws, rfl, h, rr⟩ := r
    have hh : Post X.K W σ good H0 H (match asInts xs with
      | some ns => k ns
      | none => .bad) := hh
    cases hn : asInts xs with
    | none => rw [hn] at hh; exact False.elim hh
    | some ns =>
      rw [hn] at hh
      rw [asInts_eq hn] at rr
      rw [rr.ints] at h
      exact ⟨a, ns, rfl, h, hh⟩
theorem blsOf_ok {k : List Bool → Rs PV} {good : PV → Hp → Hp → Prop} {σ : L2.St} {H0 H : Hp} {ps : List PV} {vs : List L2.V} (rs : Reps X.K H0 ps vs) (hh : Post X.K W σ good H0 H (blsOf k ps)) : ∃ a ns, vs = [.ref a] ∧ H0 a = some (.lst (ns.map L2.V.bl)) ∧ Post X.K W σ good H0 H (k ns) := by
  match ps, hh with
  | [.lst xs], hh =>
    obtain ⟨v, rfl, r⟩ := reps1 rs
    obtain ⟨a, ws, rfl, h, rr⟩ := r
    have hh : Post X.K W σ good H0 H (match asBls xs with
      | some ns => k ns
      | none => .bad) := hh
    cases hn : asBls xs with
    | none => rw [hn] at hh; exact False.elim hh
    | some ns =>
      rw [hn] at hh
      rw [asBls_eq hn] at rr
      rw [rr.bls] at h
      exact ⟨a, ns, rfl, h, hh⟩
def pAll : List PV → Rs PV := blsOf fun bs => .ok (.bl (bs.all _root_.id))
def pAny : List PV → Rs PV := blsOf fun bs => .ok (.bl (bs.any _root_.id))
def pSum : List PV → Rs PV := intsOf fun ns => .ok (.int ns.sum)
theorem c_all (hc : X.calm = true) : CallP X (.builtin "all") pAll := ⟨_, cr_all hc, fun W σ ps vs H0 H Q rs sm hh => by
  obtain ⟨a, ns, rfl, h, hh⟩ := blsOf_ok rs hh
  exact ⟨a, ns, rfl, SqL.of (sm _ _ h), pV sm hh rfl⟩⟩
theorem c_any (hc : X.calm = true) : CallP X (.builtin "any") pAny := ⟨_, cr_any hc, fun W σ ps vs H0 H Q rs sm hh => by
  obtain ⟨a, ns, rfl, h, hh⟩ := blsOf_ok rs hh
  exact ⟨a, ns, rfl, SqL.of (sm _ _ h), pV sm hh rfl⟩⟩
theorem c_sum (hc : X.calm = true) : CallP X (.builtin "sum") pSum := ⟨_, cr_sum hc, fun W σ ps vs H0 H Q rs sm hh => by
  obtain ⟨a, ns, rfl, h, hh⟩ := intsOf_ok rs hh
  exact ⟨a, ns, rfl, SqL.of (sm _ _ h), pV sm hh rfl⟩⟩
/-! ### isinstance(x, T), T a built-in type -/
def tyN : PV → Option String
  | .non => some "NoneType"
  | .bl _ => some "bool"
  | .int _ => some "int"
  | .str _ => some "str"
  | .tup _ => some "tuple"
  | .lst _ => some "list"
  | _ => none
def pIsT (T : String) (p : PV) : Rs PV := match tyN p with
  | some t => .ok (.bl (t == T || (t == "bool" && T == "int")))
  | none => .bad
theorem ty_of {K : PySem.W.Frag} {H : Hp} {p : PV} {v : L2.V} {t : String} (r : Rep K H p v) (h : tyN p = some t) : TyOf K H v (.type t) := by
  cases p with
  | non => cases h; rw [show v = .non from r]; exact .non
  | bl b => cases h; rw [show v = .bl b from r]; exact .bl b
  | int b => cases h; rw [show v = .int b from r]; exact .int b
  | str b => cases h; rw [show v = .str (S b) from r]; exact .str _
  | tup xs => cases h; obtain ⟨a, vs, rfl, h, _⟩ := r; exact .tup h
  | lst xs => cases h; obtain ⟨a, vs, rfl, h, _⟩ := r; exact .lst h
  | _ => cases h
theorem kit_ty {K : PySem.W.Frag} {p : PV} {t : String} (h : tyN p = some t) (T : String) (hT : T ∈ ["int", "bool", "str", "tuple", "list"]) : PySem.W.kitOne K (.type t) (.type T) = some (t == T || (t == "bool" && T == "int")) := by
  simp only [List.mem_cons, List.not_mem_nil, or_false] at hT
  rcases hT with rfl | rfl | rfl | rfl | rfl <;> cases p <;> cases h <;> rfl
/-- isinstance(x, T) -/
theorem x_isT {T : String} {y : Str} {p1 p2 : Pos} {fe : Env → Rs PV} (he : EX X W V e fe) (hm : X.mg "isinstance" = none) (hv : PE X (.Name y p1) (tC (.ty T))) (hT : T ∈ ["int", "bool", "str", "tuple", "list"] := by decide) (hg : Gl X "isinstance" := by rfl)
    (hst : starEach [e, .Name y p1] X.env = (false, eval e X.env) :: starEach [.Name y p1] X.env := by rfl) (hpl : (backTo pos (starEach [.Name y p1] X.env)).any (·.1) = false := by rfl) : EX X W V (.Call (.Name "isinstance" p2) [e, .Name y p1] [] pos) (b1 fe (pIsT T)) := fun Γ σ H0 H Q sh sm q => by
  refine PE.to (pe_callB call_isi hg hm (by decide +kernel) (pa_cons pe_of (pa_cons hv pa_nil) hst) (he := hst) (hpl := hpl)) (he Γ σ H0 H _ sh sm (q.step.mono fun x H1 H2 g1 q1 v r => ?_))
  have q1 : Post X.K W σ (gE X.K Q) H1 H2 (pIsT T x) := q1
  unfold pIsT at q1
  cases ht : tyN x with
  | none => rw [ht] at q1; exact False.elim q1
  | some t =>
    rw [ht] at q1
    exact ⟨v, .ty T, _, _, _, rfl, .ty T, .base (ty_of (Rep.mono g1.c _ _ r) ht), kit_ty ht T hT, pV g1.c q1 rfl⟩
/-- isinstance(x, C), C the object's own class -/
def pIsC (C : Addr) : PV → Rs PV
  | .ins D _ => if D = C then .ok (.bl true) else .bad
  | _ => .bad
theorem x_isC {C : Addr} {y : Str} {p1 p2 : Pos} {fe : Env → Rs PV} (he : EX X W V e fe) (ic : C8.InsC X.K C) (hm : X.mg "isinstance" = none) (hv : PE X (.Name y p1) (tC (.ref C))) (hg : Gl X "isinstance" := by rfl)
    (hst : starEach [e, .Name y p1] X.env = (false, eval e X.env) :: starEach [.Name y p1] X.env := by rfl) (hpl : (backTo pos (starEach [.Name y p1] X.env)).any (·.1) = false := by rfl) : EX X W V (.Call (.Name "isinstance" p2) [e, .Name y p1] [] pos) (b1 fe (pIsC C)) := fun Γ σ H0 H Q sh sm q => by
  refine PE.to (pe_callB (C8.call_isC ic) hg hm (by decide +kernel) (pa_cons pe_of (pa_cons hv pa_nil) hst) (he := hst) (hpl := hpl)) (he Γ σ H0 H _ sh sm (q.step.mono fun x H1 H2 g1 q1 v r => ?_))
  cases x with
  | ins D fs =>
    obtain ⟨e, q2⟩ := post_if q1
    subst e
    obtain ⟨a, dx, gs, rfl, h, rs⟩ := r
    exact ⟨a, dx, gs, rfl, g1.c _ _ h, pV g1.c q2 rfl⟩
  | _ => exact False.elim q1
/-! ### slices -/
/-- a bound of a slice -/
def OXp (X : Cx) (W : WX) (V : List Nat) (e : Option Expr) (f : Env → Rs (Option Int)) : Prop := ∃ t : TO, PO X e t ∧ ∀ Γ σ H0 H Q, Shr X.K V H0 Γ σ → Same H0 H → Post X.K W σ (fun o _ H => Q o H) H0 H (f Γ) → t σ H Q
theorem s_none : OXp X W V none (fun _ => .ok none) := ⟨_, po_none, fun Γ σ H0 H Q sh sm q => q.pure sm⟩
def pSome : PV → Rs (Option Int)
  | .int i => .ok (some i)
  | _ => .bad
theorem s_some {f : Env → Rs PV} (h : EX X W V e f) : OXp X W V (some e) (fun Γ => (f Γ).bind pSome) := ⟨_, po_some pe_of, fun Γ σ H0 H Q sh sm q => h Γ σ H0 H _ sh sm (q.step.mono fun x H1 H2 g q1 v r => by
  cases x with
  | int i => exact ⟨i, r, Post.pure (good := fun o _ H => Q o H) (K := X.K) (W := W) (σ := σ) g.c q1⟩
  | _ => exact False.elim q1)⟩
def cutP {α : Type} (xs : List α) (lo hi : Option Int) : List α := (xs.drop (HT.sIx xs.length 0 lo)).take (HT.sIx xs.length xs.length hi - HT.sIx xs.length 0 lo)
def pSlS (s : List Nat) (lo hi : Option Int) : Rs PV := if s.length ≤ 100000 then .ok (.str (cutP s lo hi)) else .bad
def pSl : PV → Option Int → Option Int → Rs PV
  | .str s, lo, hi => pSlS s lo hi
  | .tup xs, lo, hi => .ok (.tup (cutP xs lo hi))
  | _, _, _ => .bad
def pSlL : PV → Option Int → Option Int → Rs PV
  | .lst xs, lo, hi => .ok (.lst (cutP xs lo hi))
  | _, _, _ => .bad
def b3s (f : Env → Rs PV) (g h : Env → Rs (Option Int)) (k : PV → Option Int → Option Int → Rs PV) : Env → Rs PV := fun Γ => (f Γ).bind fun x => (g Γ).bind fun l => (h Γ).bind fun u => k x l u
theorem cutS_S (s : List Nat) (lo hi : Option Int) : cutS (S s) lo hi = S (cutP s lo hi) := by
  unfold cutS cutP
  rw [codes, S_len]
theorem Reps.cut {K : PySem.W.Frag} {H : Hp} {xs : List PV} {vs : List L2.V} (r : Reps K H xs vs) (lo hi : Option Int) : Reps K H (cutP xs lo hi) (cutV vs lo hi) := by
  unfold cutP cutV
  rw [r.len]
  exact (r.drop _).take _
variable {p2 : Pos} {lo hi : Option Expr}
theorem x_sl {f : Env → Rs PV} {g h : Env → Rs (Option Int)} (he : EX X W V e f) (hl : OXp X W V lo g) (hh : OXp X W V hi h) : EX X W V (.Subscript e (.Slice lo hi none p2) pos) (b3s f g h pSl) := fun Γ σ H0 H Q sh sm q => by
  obtain ⟨tl, pl, hl⟩ := hl
  obtain ⟨th, ph, hh⟩ := hh
  refine PE.to (pe_slice (sl_str.or sl_tupA) pe_of pl ph) (he Γ σ H0 H _ sh sm (q.step.mono fun x H1 H2 g1 q1 v r => ?_))
  refine hl Γ σ H1 H2 _ (sh.mono g1.a) g1.c (q1.step.mono fun l H3 H4 g2 q2 => ?_)
  refine hh Γ σ H3 H4 _ ((sh.mono g1.a).mono g2.a) g2.c (q2.step.mono fun u H5 H6 g3 q3 => ?_)
  have g23 := g2.trans g3
  cases x with
  | str s =>
    obtain ⟨hs, q3⟩ := post_if q3
    refine .inl ⟨S s, r, by rw [S_len]; exact lim hs, ?_⟩
    rw [cutS_S]
    exact pV g3.c q3 rfl
  | tup xs =>
    obtain ⟨a, vs, rfl, ha, rs⟩ := r
    refine .inr ⟨a, vs, rfl, SqT.of (g3.c _ _ (g23.a _ _ ha)), fun hw => ?_, fun hw p hp => ?_⟩
    · refine pV g3.c q3 ⟨a, vs, rfl, g23.a _ _ ha, ?_⟩
      have e : cutP xs l u = xs := by
        unfold cutP
        rw [← rs.len, hw.1, hw.2, List.drop_zero, Nat.sub_zero, rs.len, List.take_length]
      rw [e]
      exact Reps.mono g23.a _ _ rs
    · have gn := Gr.new (o := .tup (cutV vs l u)) g3.c hp
      exact q3 _ _ gn _ ⟨p, _, rfl, upd_same, (Reps.mono gn.a _ _ (Reps.mono g23.a _ _ rs)).cut l u⟩
  | _ => exact False.elim q3
theorem o_sl {f : Env → Rs PV} {g h : Env → Rs (Option Int)} (he : EX X W V e f) (hl : OXp X W V lo g) (hh : OXp X W V hi h) : OX X W V (.Subscript e (.Slice lo hi none p2) pos) (b3s f g h pSlL) := fun Γ σ H0 H Q sh sm q => by
  obtain ⟨tl, pl, hl⟩ := hl
  obtain ⟨th, ph, hh⟩ := hh
  refine PE.to (pe_slice sl_list pe_of pl ph) (he Γ σ H0 H _ sh sm (q.step.mono fun x H1 H2 g1 q1 v r => ?_))
  refine hl Γ σ H1 H2 _ (sh.mono g1.a) g1.c (q1.step.mono fun l H3 H4 g2 q2 => ?_)
  refine hh Γ σ H3 H4 _ ((sh.mono g1.a).mono g2.a) g2.c (q2.step.mono fun u H5 H6 g3 q3 => ?_)
  have g23 := g2.trans g3
  cases x with
  | lst xs =>
    obtain ⟨a, vs, rfl, ha, rs⟩ := r
    refine ⟨a, vs, rfl, SqL.of (g3.c _ _ (g23.a _ _ ha)), fun p hp => ?_⟩
    exact (q3 _ _ (Gr.newO g3.c hp)).2 p (none_back (g1.b.trans g23.b) hp) (none_back g3.c hp) ⟨_, upd_same, (Reps.mono g23.a _ _ rs).cut l u⟩
  | _ => exact False.elim q3
/-- xs[::-1] of a list -/
def pRevL : PV → Rs PV
  | .lst xs => .ok (.lst xs.reverse)
  | _ => .bad
theorem o_rev {f : Env → Rs PV} {k : Nat} {q1 q2 q3 : Pos} (he : EX X W V e f) : OX X W V (.Subscript e (.Slice none none (some (.UnaryOp .USub (.Constant (.int 1) k q1) q2)) q3) pos) (b1 f pRevL) := fun Γ σ H0 H Q sh sm q => by
  refine PE.to (pe_revL pe_of) (he Γ σ H0 H _ sh sm (q.step.mono fun x H1 H2 g1 q1 v r => ?_))
  cases x with
  | lst xs =>
    obtain ⟨a, vs, rfl, ha, rs⟩ := r
    exact ⟨a, vs, rfl, SqL.of (g1.c _ _ ha), fun p hp => (q1 _ _ (Gr.newO g1.c hp)).2 p (none_back g1.b hp) (none_back g1.c hp) ⟨_, upd_same, rs.rev⟩⟩
  | _ => exact False.elim q1
/-- list(range(n)) -/
def pRgL : PV → Rs PV
  | .int n => if -100000 ≤ n ∧ n ≤ 100000 then .ok (.lst ((List.range n.toNat).map fun i : Nat => .int (i : Int))) else .bad
  | _ => .bad
theorem rgV_rep {K : PySem.W.Frag} {H : Hp} (n : Int) : Reps K H ((List.range n.toNat).map fun i : Nat => PV.int (i : Int)) (rgV 0 n) := by
  unfold rgV
  rw [Int.sub_zero]
  generalize List.range n.toNat = l
  induction l with
  | nil => trivial
  | cons a l ih => exact ⟨by show L2.V.int (0 + (a : Int)) = _; rw [Int.zero_add], ih⟩
theorem o_listRg {f : Env → Rs PV} {q1 q2 : Pos} (hc : X.calm = true) (hl : X.mg "list" = none) (hr : X.mg "range" = none) (ha : EX X W V a f) (hg1 : Gl X "list" := by rfl) (hg2 : Gl X "range" := by rfl) (na : starEach [a] X.env = (false, eval a X.env) :: starEach [] X.env := by rfl)
    (na2 : starEach [.Call (.Name "range" q1) [a] [] q2] X.env = (false, eval (.Call (.Name "range" q1) [a] [] q2) X.env) :: starEach [] X.env := by rfl) : OX X W V (.Call (.Name "list" p2) [.Call (.Name "range" q1) [a] [] q2] [] pos) (b1 f pRgL) := fun Γ σ H0 H Q sh sm q => by
  refine PE.to (pe_listRg hc hg1 hl (prg_1 hg2 hr pe_of na) na2) (ha Γ σ H0 H _ sh sm (q.step.mono fun x H1 H2 g1 q1 v r => ?_))
  cases x with
  | int n =>
    obtain ⟨hn, q2⟩ := post_if q1
    refine ⟨n, r, ?_, fun p hp => (q2 _ _ (Gr.newO g1.c hp)).2 p (none_back g1.b hp) (none_back g1.c hp) ⟨_, upd_same, rgV_rep n⟩⟩
    unfold RgOk
    omega
  | _ => exact False.elim q1
end
end Lh.P
set_option Elab.async false
set_option linter.all false
set_option maxRecDepth 100000
set_option maxHeartbeats 4000000
/-! The slots of a def's body: which hold new lists that may be changed. -/
namespace Lh.P
open PySem PySem.Spec PyProof.Rows L2 SX

/-- what is fixed through a body: what stood (told for good, in all), the places that the caller lets be changed -/
structure Zn where
  H00 : Hp
  He : Hp
  I : List (Nat × Addr)
/-- the three kinds of what may be changed -/
inductive Kd where
  | L | I | D
deriving DecidableEq
def Kd.of : HO → Option Kd
  | .lst _ => some .L
  | .ins _ _ _ => some .I
  | .dK _ => some .D
  | _ => none
mutual
/-- nothing of the kind within -/
def noQ (k : Kd) : PV → Bool
  | .lst xs => k != .L && noQs k xs
  | .scr _ => k != .L
  | .exr _ _ _ _ => false
  | .tup xs => noQs k xs
  | .ins _ fs => k != .I && noQf k fs
  | .dic ks => k != .D && noQk k ks
  | .tun xs => noQs k xs
  | _ => true
def noQs (k : Kd) : List PV → Bool
  | [] => true
  | x :: xs => noQ k x && noQs k xs
def noQf (k : Kd) : List (Str × PV) → Bool
  | [] => true
  | (_, x) :: xs => noQ k x && noQf k xs
def noQk (k : Kd) : List (L2.Key × PV) → Bool
  | [] => true
  | (_, x) :: xs => noQ k x && noQk k xs
end
/-- apart from a changeable q -/
def away (p : PV) : PV → Bool
  | .lst _ => noQ .L p
  | .ins _ _ => noQ .I p
  | .dic _ => noQ .D p
  | q => scP q
def awayS (xs : List PV) : PV → Bool
  | .lst _ => noQs .L xs
  | .ins _ _ => noQs .I xs
  | .dic _ => noQs .D xs
  | q => scP q
/-- the slots of V that may be changed hold nothing that p could share -/
def sep (V O : List Nat) (Γ : Env) (k : PV → Bool) : Bool := O.all fun i => if i ∈ V then (match Γ[i]? with
  | some (some q) => k q
  | _ => true) else true
section
variable {K : PySem.W.Frag} {H H' : Hp}
open Classical in
/-- H' without the places of Ex, which are lists (instances) in H' -/
noncomputable def less (H : Hp) (Ex : Addr → Prop) : Hp := fun a => if Ex a then none else H a
theorem less_at {Ex : Addr → Prop} {k : Kd} (h : ∀ a, Ex a → ∃ o, H a = some o ∧ Kd.of o = some k) {a : Addr} {o : HO} (e : H a = some o) (n : Kd.of o ≠ some k) : less H Ex a = some o := by
  unfold less
  rw [if_neg fun z => ?_]
  · exact e
  · obtain ⟨u, h1, h2⟩ := h a z
    rw [e] at h1
    cases h1
    exact n h2
mutual
theorem rep_noQ {Ex : Addr → Prop} {k : Kd} (h : ∀ a, Ex a → ∃ o, H a = some o ∧ Kd.of o = some k) : ∀ (p : PV) (v : V), noQ k p = true → Rep K H p v → Rep K (less H Ex) p v
  | .non, _, _, r => r
  | .bl _, _, _, r => r
  | .int _, _, _, r => r
  | .str _, _, _, r => r
  | .tup xs, v, n, r => by
    obtain ⟨a, vs, e, h1, rs⟩ := r
    exact ⟨a, vs, e, less_at h h1 (by unfold Kd.of; simp), reps_noQ h xs vs (by unfold noQ at n; exact n) rs⟩
  | .lst xs, v, n, r => by
    obtain ⟨a, vs, e, h1, rs⟩ := r
    unfold noQ at n
    rw [Bool.and_eq_true] at n
    exact ⟨a, vs, e, less_at h h1 (by unfold Kd.of; intro z; cases z; exact absurd n.1 (by decide)), reps_noQ h xs vs n.2 rs⟩
  | .ins C fs, v, n, r => by
    obtain ⟨a, dx, gs, e, h1, rs⟩ := r
    unfold noQ at n
    rw [Bool.and_eq_true] at n
    exact ⟨a, dx, gs, e, less_at h h1 (by unfold Kd.of; intro z; cases z; exact absurd n.1 (by decide)), repf_noQ h fs gs n.2 rs⟩
  | .dic ks, v, n, r => by
    obtain ⟨a, gs, e, h1, rs⟩ := r
    unfold noQ at n
    rw [Bool.and_eq_true] at n
    exact ⟨a, gs, e, less_at h h1 (by unfold Kd.of; intro z; cases z; exact absurd n.1 (by decide)), repk_noQ h ks gs n.2 rs⟩
  | .tun xs, v, n, r => by
    obtain ⟨a, vs, e, ⟨o, h1, nd⟩, rs⟩ := r
    exact ⟨a, vs, e, ⟨o, less_at h h1 (by unfold Kd.of; simp), nd⟩, reps_noQ h xs vs (by unfold noQ at n; exact n) rs⟩
  | .scr ns, v, n, r => by
    obtain ⟨a, e, h1⟩ := r
    refine ⟨a, e, ?_⟩
    unfold noQ at n
    rcases h1 with (h1 | ⟨o, h1⟩) | h1
    · exact .inl (.inl (less_at h h1 (by unfold Kd.of; intro z; cases z; exact absurd n (by decide))))
    · exact .inl (.inr ⟨o, less_at h h1 (by unfold Kd.of; simp)⟩)
    · exact .inr h1
  | .exr _ _ _ _, _, n, _ => by unfold noQ at n; cases n
theorem reps_noQ {Ex : Addr → Prop} {k : Kd} (h : ∀ a, Ex a → ∃ o, H a = some o ∧ Kd.of o = some k) : ∀ (p : List PV) (v : List V), noQs k p = true → Reps K H p v → Reps K (less H Ex) p v
  | [], [], _, _ => trivial
  | [], _ :: _, _, z => False.elim z
  | _ :: _, [], _, z => False.elim z
  | x :: xs, v :: vs, n, ⟨r, rs⟩ => by
    unfold noQs at n
    rw [Bool.and_eq_true] at n
    exact ⟨rep_noQ h x v n.1 r, reps_noQ h xs vs n.2 rs⟩
theorem repf_noQ {Ex : Addr → Prop} {k : Kd} (h : ∀ a, Ex a → ∃ o, H a = some o ∧ Kd.of o = some k) : ∀ (p : List (Str × PV)) (v : List (Str × V)), noQf k p = true → RepF K H p v → RepF K (less H Ex) p v
  | [], [], _, _ => trivial
  | [], _ :: _, _, z => False.elim z
  | _ :: _, [], _, z => False.elim z
  | (f, x) :: xs, (g, v) :: vs, n, ⟨e, r, rs⟩ => by
    unfold noQf at n
    rw [Bool.and_eq_true] at n
    exact ⟨e, rep_noQ h x v n.1 r, repf_noQ h xs vs n.2 rs⟩
theorem repk_noQ {Ex : Addr → Prop} {k : Kd} (h : ∀ a, Ex a → ∃ o, H a = some o ∧ Kd.of o = some k) : ∀ (p : List (L2.Key × PV)) (v : List (L2.Key × V)), noQk k p = true → RepK K H p v → RepK K (less H Ex) p v
  | [], [], _, _ => trivial
  | [], _ :: _, _, z => False.elim z
  | _ :: _, [], _, z => False.elim z
  | (f, x) :: xs, (g, v) :: vs, n, ⟨e, r, rs⟩ => by
    unfold noQk at n
    rw [Bool.and_eq_true] at n
    exact ⟨e, rep_noQ h x v n.1 r, repk_noQ h xs vs n.2 rs⟩
end
end
/-- the slots as the place of the body where it runs has them: O those that may be changed -/
structure EnvOk (K : PySem.W.Frag) (Z : Zn) (O : List Nat) (H0 H : Hp) (Γ : Env) (σ : L2.St) : Prop where
  len : σ.length = Γ.length
  a : Same Z.H00 H0
  b : Same Z.He H
  c : Same H0 H
  d : ∀ a, H0 a ≠ none → Z.H00 a ≠ none ∨ Z.He a = none
  vals : ∀ i p, Γ[i]? = some (some p) → (i ∉ O ∨ scP p = true) → ∃ v, σ[i]? = some (some v) ∧ Rep K H0 p v
  own : ∃ ρ : Nat → Addr, (∀ i ∈ O, ∀ p, Γ[i]? = some (some p) → scP p = false → σ[i]? = some (some (.ref (ρ i))) ∧ Root K H0 H (ρ i) p ∧ H0 (ρ i) = none ∧ Z.He (ρ i) = none ∧ ∀ j ∈ O, j ≠ i → (∃ q, Γ[j]? = some (some q) ∧ scP q = false) → ρ j ≠ ρ i) ∧
    ∀ q ∈ Z.I, q.1 ∈ O ∧ ρ q.1 = q.2 ∧ ∃ p, Γ[q.1]? = some (some p) ∧ scP p = false
section
variable {K : PySem.W.Frag} {Z : Zn} {O O' V : List Nat} {H0 H : Hp} {Γ : Env} {σ : L2.St}
theorem Root.known {H0 H : Hp} {a : Addr} {p : PV} (r : Root K H0 H a p) : ∃ o, H a = some o := by
  cases p with
  | lst xs => obtain ⟨vs, h, _⟩ := r; exact ⟨_, h⟩
  | ins C fs => obtain ⟨dx, gs, h, _⟩ := r; exact ⟨_, h⟩
  | dic ks => obtain ⟨ws, h, _⟩ := r; exact ⟨_, h⟩
  | _ => exact False.elim r
theorem Root.mono {H0 H H0' H' : Hp} {a : Addr} {p : PV} (s0 : Same H0 H0') (s : Same H H') (r : Root K H0 H a p) : Root K H0' H' a p := by
  cases p with
  | lst xs => obtain ⟨vs, h, rs⟩ := r; exact ⟨vs, s _ _ h, Reps.mono s0 _ _ rs⟩
  | ins C fs => obtain ⟨dx, gs, h, rs⟩ := r; exact ⟨dx, gs, s _ _ h, RepF.mono s0 _ _ rs⟩
  | dic ks => obtain ⟨ws, h, rs⟩ := r; exact ⟨ws, s _ _ h, RepK.mono s0 _ _ rs⟩
  | _ => exact False.elim r
theorem Root.keep {H0 H H' : Hp} {a : Addr} {p : PV} (s : H' a = H a) (r : Root K H0 H a p) : Root K H0 H' a p := by
  cases p with
  | lst xs => obtain ⟨vs, h, rs⟩ := r; exact ⟨vs, s.trans h, rs⟩
  | ins C fs => obtain ⟨dx, gs, h, rs⟩ := r; exact ⟨dx, gs, s.trans h, rs⟩
  | dic ks => obtain ⟨ws, h, rs⟩ := r; exact ⟨ws, s.trans h, rs⟩
  | _ => exact False.elim r
theorem Root.rep {H0 H : Hp} {a : Addr} {p : PV} (s : Same H0 H) (h : H0 a = H a) (r : Root K H0 H a p) : Rep K H0 p (.ref a) := by
  cases p with
  | lst xs => obtain ⟨vs, e, rs⟩ := r; exact ⟨a, vs, rfl, h.trans e, rs⟩
  | ins C fs => obtain ⟨dx, gs, e, rs⟩ := r; exact ⟨a, dx, gs, rfl, h.trans e, rs⟩
  | dic ks => obtain ⟨ws, e, rs⟩ := r; exact ⟨a, ws, rfl, h.trans e, rs⟩
  | _ => exact False.elim r
open Classical in
/-- H0 with what stands in H at the places of Ex -/
noncomputable def more (H0 H : Hp) (Ex : Addr → Prop) : Hp := fun a => if Ex a then H a else H0 a
open Classical in
/-- some slots are told for good -/
theorem EnvOk.freeze (E : EnvOk K Z O H0 H Γ σ) (h : ∀ j ∈ O', j ∈ O) (hI : ∀ q ∈ Z.I, q.1 ∈ O') : ∃ H0', Same H0 H0' ∧ (∀ a, H0' a ≠ none → H0 a ≠ none ∨ (Z.He a = none ∧ ∃ j ∈ O, ∃ q, Γ[j]? = some (some q) ∧ scP q = false ∧ σ[j]? = some (some (.ref a)))) ∧ EnvOk K Z O' H0' H Γ σ := by
  obtain ⟨ρ, h1, h2⟩ := E.own
  let Ex : Addr → Prop := fun a => ∃ i, i ∈ O ∧ i ∉ O' ∧ (∃ p, Γ[i]? = some (some p) ∧ scP p = false) ∧ ρ i = a
  have s0 : Same H0 (more H0 H Ex) := fun b o e => by
    unfold more
    by_cases z : Ex b
    · rw [if_pos z]; exact E.c _ _ e
    · rw [if_neg z]; exact e
  have sH : Same (more H0 H Ex) H := fun b o e => by
    unfold more at e
    by_cases z : Ex b
    · rw [if_pos z] at e; exact e
    · rw [if_neg z] at e; exact E.c _ _ e
  have hd : ∀ a, more H0 H Ex a ≠ none → H0 a ≠ none ∨ (Z.He a = none ∧ ∃ j ∈ O, ∃ q, Γ[j]? = some (some q) ∧ scP q = false ∧ σ[j]? = some (some (.ref a))) := fun b e => by
    unfold more at e
    by_cases z : Ex b
    · obtain ⟨i, hi, _, ⟨p, hp, sp⟩, rfl⟩ := z
      exact .inr ⟨(h1 i hi p hp sp).2.2.2.1, i, hi, p, hp, sp, (h1 i hi p hp sp).1⟩
    · rw [if_neg z] at e; exact .inl e
  refine ⟨more H0 H Ex, s0, hd, ⟨E.len, E.a.trans s0, E.b, sH, fun b e => ?_, fun i p hp hi => ?_, ρ, fun i hi p hp sp => ?_, fun q hq => ?_⟩⟩
  · rcases hd b e with z | z
    · exact E.d b z
    · exact .inr z.1
  · by_cases ho : i ∉ O ∨ scP p = true
    · obtain ⟨v, k1, k2⟩ := E.vals i p hp ho
      exact ⟨v, k1, Rep.mono s0 _ _ k2⟩
    · rw [not_or] at ho
      have ho1 : i ∈ O := Classical.not_not.mp ho.1
      have sp : scP p = false := by simpa using ho.2
      have hi : i ∉ O' := hi.elim (fun z => z) fun z => absurd z ho.2
      obtain ⟨k1, k2, _, _, _⟩ := h1 i ho1 p hp sp
      refine ⟨_, k1, (Root.mono s0 (fun _ _ z => z) k2).rep sH ?_⟩
      unfold more
      rw [if_pos ⟨i, ho1, hi, ⟨p, hp, sp⟩, rfl⟩]
  · obtain ⟨k1, k2, k3, k4, k5⟩ := h1 i (h i hi) p hp sp
    refine ⟨k1, Root.mono s0 (fun _ _ z => z) k2, ?_, k4, fun j hj hne hq => k5 j (h j hj) hne hq⟩
    unfold more
    rw [if_neg]
    · exact k3
    · rintro ⟨j, hj, hj', ⟨q, hq, sq⟩, e⟩
      exact k5 j hj (fun z => hj' (by rw [z]; exact hi)) ⟨q, hq, sq⟩ e
  · exact ⟨hI q hq, (h2 q hq).2⟩
end
end Lh.P
set_option Elab.async false
set_option linter.all false
set_option maxRecDepth 100000
set_option maxHeartbeats 4000000
/-! Slots lent to an expression, slots stored. -/
namespace Lh.P
open PySem PySem.Spec PyProof.Rows L2 SX
section
variable {K : PySem.W.Frag} {Z : Zn} {O O' V : List Nat} {H0 H : Hp} {Γ : Env} {σ : L2.St}
open Classical in
theorem less_step {H : Hp} {A B C : Addr → Prop} (h : ∀ a, C a ↔ A a ∨ B a) : less H C = less (less H A) B := by
  funext b
  unfold less
  by_cases z : A b
  · rw [if_pos ((h b).mpr (.inl z))]
    by_cases y : B b
    · rw [if_pos y]
    · rw [if_neg y, if_pos z]
  · by_cases y : B b
    · rw [if_pos ((h b).mpr (.inr y)), if_pos y]
    · rw [if_neg (fun w => ((h b).mp w).elim z y), if_neg y, if_neg z]
theorem rep_kind {H : Hp} {Ex : Addr → Prop} {k : Kd} {p : PV} {v : L2.V} (h : ∀ a, Ex a → (∃ o, H a = some o ∧ Kd.of o = some k) ∧ noQ k p = true) (r : Rep K H p v) : Rep K (less H Ex) p v := by
  by_cases z : ∃ a, Ex a
  · obtain ⟨a, z⟩ := z
    exact rep_noQ (fun b hb => (h b hb).1) p v (h a z).2 r
  · have e : less H Ex = H := by
      funext b
      unfold less
      rw [if_neg fun y => z ⟨b, y⟩]
    rw [e]; exact r
theorem rep_away {H : Hp} {Ex : Addr → Prop} {p : PV} {v : L2.V} (h : ∀ a, Ex a → ∃ o k, H a = some o ∧ Kd.of o = some k ∧ noQ k p = true) (r : Rep K H p v) : Rep K (less H Ex) p v := by
  let E (k : Kd) : Addr → Prop := fun a => Ex a ∧ ∃ o, H a = some o ∧ Kd.of o = some k
  have key : ∀ {k : Kd} {a : Addr}, E k a → noQ k p = true := fun {k a} ⟨z, o, h1, h2⟩ => by
    obtain ⟨u, l, g1, g2, g3⟩ := h a z
    rw [h1] at g1
    cases g1
    rw [h2] at g2
    cases g2
    exact g3
  have s1 : Rep K (less H (E .L)) p v := rep_kind (fun a z => ⟨z.2, key z⟩) r
  have s2 : Rep K (less (less H (E .L)) (E .I)) p v := rep_kind (fun a z => ⟨(by
    obtain ⟨_, o, h1, h2⟩ := id z
    refine ⟨o, ?_, h2⟩
    unfold less
    rw [if_neg fun y => ?_]
    · exact h1
    · obtain ⟨_, u, g1, g2⟩ := y
      rw [h1] at g1; cases g1
      rw [h2] at g2; cases g2), key z⟩) s1
  have s3 : Rep K (less (less (less H (E .L)) (E .I)) (E .D)) p v := rep_kind (fun a z => ⟨(by
    obtain ⟨_, o, h1, h2⟩ := id z
    refine ⟨o, ?_, h2⟩
    unfold less
    rw [if_neg fun y => ?_, if_neg fun y => ?_]
    · exact h1
    · obtain ⟨_, u, g1, g2⟩ := y
      rw [h1] at g1; cases g1
      rw [h2] at g2; cases g2
    · obtain ⟨_, u, g1, g2⟩ := y
      rw [h1] at g1; cases g1
      rw [h2] at g2; cases g2), key z⟩) s2
  have e1 : less H Ex = less (less (less H (E .L)) (E .I)) (E .D) := by
    rw [← less_step (A := E .L) (B := E .I) (C := fun a => E .L a ∨ E .I a) fun _ => Iff.rfl]
    refine less_step fun a => ⟨fun z => ?_, fun z => z.elim (fun z => z.elim (·.1) (·.1)) (·.1)⟩
    obtain ⟨o, k, h1, h2, _⟩ := h a z
    cases k
    · exact .inl (.inl ⟨z, o, h1, h2⟩)
    · exact .inl (.inr ⟨z, o, h1, h2⟩)
    · exact .inr ⟨z, o, h1, h2⟩
  rw [e1]
  exact s3
/-- what is apart from a changeable thing -/
theorem away_kind {H0 H : Hp} {a : Addr} {p q : PV} (r : Root K H0 H a q) (w : away p q = true) : ∃ o k, H a = some o ∧ Kd.of o = some k ∧ noQ k p = true := by
  cases q with
  | lst xs => obtain ⟨vs, e, _⟩ := r; exact ⟨_, .L, e, rfl, w⟩
  | ins C fs => obtain ⟨dx, gs, e, _⟩ := r; exact ⟨_, .I, e, rfl, w⟩
  | dic ks => obtain ⟨ws, e, _⟩ := r; exact ⟨_, .D, e, rfl, w⟩
  | _ => exact False.elim r
/-- both grew, by what an expression lays -/
theorem EnvOk.grow {H0' H' : Hp} (E : EnvOk K Z O H0 H Γ σ) (g : Gr H0 H H0' H') : EnvOk K Z O H0' H' Γ σ := by
  obtain ⟨ρ, h1, h2⟩ := E.own
  refine ⟨E.len, E.a.trans g.a, E.b.trans g.b, g.c, fun b e => ?_, fun i p hp hi => ?_, ρ, fun i hi p hp sp => ?_, h2⟩
  · rcases g.d b e with z | z
    · exact E.d b z
    · exact .inr (none_back E.b z)
  · obtain ⟨v, k1, k2⟩ := E.vals i p hp hi
    exact ⟨v, k1, Rep.mono g.a _ _ k2⟩
  · obtain ⟨k1, k2, k3, k4, k5⟩ := h1 i hi p hp sp
    refine ⟨k1, Root.mono g.a g.b k2, ?_, k4, k5⟩
    cases e : H0' (ρ i) with
    | none => rfl
    | some o =>
      obtain ⟨u, hu⟩ := k2.known
      rcases g.d (ρ i) (by rw [e]; simp) with z | z
      · exact absurd k3 z
      · rw [hu] at z; cases z
open Classical in
/-- the changeable slots of S are lent -/
theorem EnvOk.lend (E : EnvOk K Z O H0 H Γ σ) (S : Nat → Prop) : ∃ H0p, Same H0 H0p ∧ Same H0p H ∧ (∀ i p, Γ[i]? = some (some p) → (i ∈ O → S i) → ∃ v, σ[i]? = some (some v) ∧ Rep K H0p p v) ∧ ∀ H0' H', Gr H0p H H0' H' →
    (∀ O', (∀ j, j ∈ O' ↔ j ∈ O ∧ ¬ S j) → (∀ q ∈ Z.I, q.1 ∈ O') → EnvOk K Z O' H0' H' Γ σ) ∧
    ∃ H0'', EnvOk K Z O H0'' H' Γ σ ∧ Same H0 H0'' ∧ Same H0'' H0' ∧ (∀ a, H a = none → H0'' a = H0' a) ∧ ∀ p v, (∀ i ∈ O, S i → ∀ q, Γ[i]? = some (some q) → away p q = true) → Rep K H0' p v → Rep K H0'' p v := by
  obtain ⟨ρ, h1, h2⟩ := E.own
  let Ex : Addr → Prop := fun a => ∃ i, i ∈ O ∧ S i ∧ (∃ p, Γ[i]? = some (some p) ∧ scP p = false) ∧ ρ i = a
  have s0 : Same H0 (more H0 H Ex) := fun b o e => by
    unfold more
    by_cases z : Ex b
    · rw [if_pos z]; exact E.c _ _ e
    · rw [if_neg z]; exact e
  have sH : Same (more H0 H Ex) H := fun b o e => by
    unfold more at e
    by_cases z : Ex b
    · rw [if_pos z] at e; exact e
    · rw [if_neg z] at e; exact E.c _ _ e
  have hd : ∀ a, more H0 H Ex a ≠ none → H0 a ≠ none ∨ Z.He a = none := fun b e => by
    unfold more at e
    by_cases z : Ex b
    · obtain ⟨i, hi, _, ⟨p, hp, sp⟩, rfl⟩ := z
      exact .inr (h1 i hi p hp sp).2.2.2.1
    · rw [if_neg z] at e; exact .inl e
  refine ⟨more H0 H Ex, s0, sH, fun i p hp hi => ?_, fun H0' H' g => ⟨fun O' hO' hI => ?_, ?_⟩⟩
  · by_cases ho : i ∉ O ∨ scP p = true
    · obtain ⟨v, k1, k2⟩ := E.vals i p hp ho
      exact ⟨v, k1, Rep.mono s0 _ _ k2⟩
    · rw [not_or] at ho
      have ho1 : i ∈ O := Classical.not_not.mp ho.1
      have sp : scP p = false := by simpa using ho.2
      obtain ⟨k1, k2, _, _, _⟩ := h1 i ho1 p hp sp
      refine ⟨_, k1, (Root.mono s0 (fun _ _ z => z) k2).rep sH ?_⟩
      unfold more
      rw [if_pos ⟨i, ho1, hi ho1, ⟨p, hp, sp⟩, rfl⟩]
  · refine EnvOk.grow (H0 := more H0 H Ex) ⟨E.len, E.a.trans s0, E.b, sH, fun b e => ?_, fun i p hp hi => ?_, ρ, fun i hi p hp sp => ?_, fun q hq => ?_⟩ g
    · rcases hd b e with z | z
      · exact E.d b z
      · exact .inr z
    · by_cases ho : i ∉ O ∨ scP p = true
      · obtain ⟨v, k1, k2⟩ := E.vals i p hp ho
        exact ⟨v, k1, Rep.mono s0 _ _ k2⟩
      · rw [not_or] at ho
        have ho1 : i ∈ O := Classical.not_not.mp ho.1
        have sp : scP p = false := by simpa using ho.2
        have hi : i ∉ O' := hi.elim (fun z => z) fun z => absurd z ho.2
        obtain ⟨k1, k2, _, _, _⟩ := h1 i ho1 p hp sp
        refine ⟨_, k1, (Root.mono s0 (fun _ _ z => z) k2).rep sH ?_⟩
        unfold more
        rw [if_pos ⟨i, ho1, Classical.byContradiction fun z => hi ((hO' i).mpr ⟨ho1, z⟩), ⟨p, hp, sp⟩, rfl⟩]
    · obtain ⟨ho, hs⟩ := (hO' i).mp hi
      obtain ⟨k1, k2, k3, k4, k5⟩ := h1 i ho p hp sp
      refine ⟨k1, Root.mono s0 (fun _ _ z => z) k2, ?_, k4, fun j hj hne hq => k5 j ((hO' j).mp hj).1 hne hq⟩
      unfold more
      rw [if_neg]
      · exact k3
      · rintro ⟨j, hj, hj', ⟨q, hq, sq⟩, e⟩
        exact k5 j hj (fun z => hs (by rw [← z]; exact hj')) ⟨q, hq, sq⟩ e
    · exact ⟨hI q hq, (h2 q hq).2⟩
  · have nEx : ∀ b o, H0 b = some o → ¬ Ex b := fun b o e z => by
      obtain ⟨i, hi, _, ⟨p, hp, sp⟩, rfl⟩ := z
      rw [(h1 i hi p hp sp).2.2.1] at e; cases e
    have s1 : Same H0 (less H0' Ex) := fun b o e => by
      unfold less
      rw [if_neg (nEx b o e)]
      exact g.a _ _ (s0 _ _ e)
    have s2 : Same (less H0' Ex) H0' := fun b o e => by
      unfold less at e
      by_cases z : Ex b
      · rw [if_pos z] at e; cases e
      · rw [if_neg z] at e; exact e
    have m0 : ∀ b, more H0 H Ex b ≠ none → ¬ Ex b → H0 b ≠ none := fun b e z => by
      unfold more at e
      rw [if_neg z] at e; exact e
    refine ⟨less H0' Ex, ⟨E.len, E.a.trans s1, E.b.trans g.b, s2.trans g.c, fun b e => ?_, fun i p hp hi => ?_, ρ, fun i hi p hp sp => ?_, h2⟩, s1, s2, fun b hb => ?_, fun p v hs r => ?_⟩
    · have z : ¬ Ex b := fun z => e (by unfold less; rw [if_pos z])
      have e' : H0' b ≠ none := fun y => e (by unfold less; rw [if_neg z]; exact y)
      rcases g.d b e' with y | y
      · exact E.d b (m0 b y z)
      · exact .inr (none_back E.b y)
    · obtain ⟨v, k1, k2⟩ := E.vals i p hp hi
      exact ⟨v, k1, Rep.mono s1 _ _ k2⟩
    · obtain ⟨k1, k2, k3, k4, k5⟩ := h1 i hi p hp sp
      refine ⟨k1, Root.mono s1 g.b k2, ?_, k4, k5⟩
      unfold less
      by_cases z : Ex (ρ i)
      · rw [if_pos z]
      · rw [if_neg z]
        cases e : H0' (ρ i) with
        | none => rfl
        | some o =>
          obtain ⟨u, hu⟩ := k2.known
          rcases g.d (ρ i) (by rw [e]; simp) with y | y
          · exact absurd k3 (m0 _ y z)
          · rw [hu] at y; cases y
    · unfold less
      rw [if_neg]
      rintro ⟨i, hi, _, ⟨p, hp, sp⟩, rfl⟩
      obtain ⟨u, hu⟩ := (h1 i hi p hp sp).2.1.known
      rw [hu] at hb; cases hb
    · refine rep_away (fun b hb => ?_) r
      obtain ⟨i, hi, hs', ⟨q, hq, sq⟩, rfl⟩ := hb
      obtain ⟨o, k, e, h3, h4⟩ := away_kind (h1 i hi q hq sq).2.1 (hs i hi hs' q hq)
      refine ⟨o, k, g.a _ _ ?_, h3, h4⟩
      unfold more
      rw [if_pos ⟨i, hi, hs', ⟨q, hq, sq⟩, rfl⟩]; exact e
theorem getE_set {Γ : Env} {i j : Nat} {o : Option PV} {p : PV} (h : (Γ.set i o)[j]? = some (some p)) : (j = i ∧ o = some p) ∨ (j ≠ i ∧ Γ[j]? = some (some p)) := by
  by_cases e : i = j
  · subst e
    rw [List.getElem?_set] at h
    rw [if_pos rfl] at h
    split at h
    · exact .inl ⟨rfl, Option.some.inj h⟩
    · cases h
  · rw [List.getElem?_set_ne e] at h
    exact .inr ⟨fun z => e z.symm, h⟩
/-- a slot stored: what is told for good -/
theorem EnvOk.put (E : EnvOk K Z O H0 H Γ σ) {i : Nat} {p : PV} {v : L2.V} (hi : i ∉ O) (r : Rep K H0 p v) : EnvOk K Z O H0 H (Γ.set i (some p)) (σ.set i (some v)) := by
  obtain ⟨ρ, h1, h2⟩ := E.own
  refine ⟨by rw [List.length_set, List.length_set]; exact E.len, E.a, E.b, E.c, E.d, fun j q hq hj => ?_, ρ, fun j hj q hq sq => ?_, fun q hq => ?_⟩
  · rcases getE_set hq with ⟨rfl, e⟩ | ⟨hne, hq⟩
    · cases e
      refine ⟨v, ?_, r⟩
      have hl : j < σ.length := by
        rw [E.len]
        have := (List.getElem?_eq_some_iff.mp hq).1
        rw [List.length_set] at this
        exact this
      rw [List.getElem?_set_self hl]
    · obtain ⟨w, k1, k2⟩ := E.vals j q hq hj
      exact ⟨w, by rw [List.getElem?_set_ne fun z => hne z.symm]; exact k1, k2⟩
  · rcases getE_set hq with ⟨rfl, e⟩ | ⟨hne, hq⟩
    · exact absurd hj hi
    · obtain ⟨k1, k2, k3, k4, k5⟩ := h1 j hj q hq sq
      refine ⟨by rw [List.getElem?_set_ne fun z => hne z.symm]; exact k1, k2, k3, k4, fun l hl hn ⟨z, hz, sz⟩ => k5 l hl hn ?_⟩
      rcases getE_set hz with ⟨rfl, _⟩ | ⟨_, hz⟩
      · exact absurd hl hi
      · exact ⟨z, hz, sz⟩
  · obtain ⟨k1, k2, p', k3, sp'⟩ := h2 q hq
    refine ⟨k1, k2, p', ?_, sp'⟩
    rw [List.getElem?_set_ne fun z => hi (by rw [z]; exact k1)]
    exact k3
theorem root_sc {H0 H : Hp} {a : Addr} {p : PV} (r : Root K H0 H a p) : scP p = false := by
  cases p with
  | lst _ => rfl
  | ins _ _ => rfl
  | dic _ => rfl
  | _ => exact False.elim r
/-- a slot stored: a value without a place, in a slot that may be changed -/
theorem EnvOk.putS (E : EnvOk K Z O H0 H Γ σ) {i : Nat} {p : PV} {v : L2.V} (hi : i ∉ O) (r : Rep K H0 p v) (s : scP p = true) : EnvOk K Z (i :: O) H0 H (Γ.set i (some p)) (σ.set i (some v)) := by
  have E1 := E.put hi r
  obtain ⟨ρ, h1, h2⟩ := E1.own
  have no : ∀ {q : PV}, (Γ.set i (some p))[i]? = some (some q) → scP q = false → False := fun {q} hq sq => by
    rcases getE_set hq with ⟨_, e⟩ | ⟨z, _⟩
    · cases e; rw [s] at sq; cases sq
    · exact z rfl
  refine ⟨E1.len, E1.a, E1.b, E1.c, E1.d, fun j q hq hj => E1.vals j q hq (hj.imp (fun hj z => hj (List.mem_cons_of_mem _ z)) fun z => z), ρ, fun j hj q hq sq => ?_, fun q hq => ?_⟩
  · rcases List.mem_cons.mp hj with rfl | hj
    · exact absurd sq fun sq => no hq sq
    · obtain ⟨k1, k2, k3, k4, k5⟩ := h1 j hj q hq sq
      refine ⟨k1, k2, k3, k4, fun l hl hn ⟨z, hz, sz⟩ => ?_⟩
      rcases List.mem_cons.mp hl with rfl | hl
      · exact absurd sz fun sz => no hz sz
      · exact k5 l hl hn ⟨z, hz, sz⟩
  · obtain ⟨k1, k2⟩ := h2 q hq
    exact ⟨List.mem_cons_of_mem _ k1, k2⟩
/-- a slot stored: something new, that may be changed -/
theorem EnvOk.putO (E : EnvOk K Z O H0 H Γ σ) {i : Nat} {p : PV} {a : Addr} {Hs : Hp} (hi : i ∉ O) (r : Root K H0 H a p) (n0 : H0 a = none) (ne : Z.He a = none) (ap : ∀ j ∈ O, ∀ q, Γ[j]? = some (some q) → scP q = false → σ[j]? ≠ some (some (.ref a))) :
    EnvOk K Z (i :: O) H0 H (Γ.set i (some p)) (σ.set i (some (.ref a))) := by
  obtain ⟨ρ, h1, h2⟩ := E.own
  refine ⟨by rw [List.length_set, List.length_set]; exact E.len, E.a, E.b, E.c, E.d, fun j q hq hj => ?_, fun j => if j = i then a else ρ j, fun j hj q hq sq => ?_, fun q hq => ?_⟩
  · rcases getE_set hq with ⟨rfl, e⟩ | ⟨hne, hq⟩
    · cases e
      exact hj.elim (fun hj => absurd List.mem_cons_self hj) fun z => by rw [root_sc r] at z; cases z
    · obtain ⟨w, k1, k2⟩ := E.vals j q hq (hj.imp (fun hj z => hj (List.mem_cons_of_mem _ z)) fun z => z)
      exact ⟨w, by rw [List.getElem?_set_ne fun z => hne z.symm]; exact k1, k2⟩
  · have nr : ∀ l ∈ O, (∃ q, Γ[l]? = some (some q) ∧ scP q = false) → ρ l ≠ a := fun l hl ⟨q, hq, sq⟩ e => ap l hl q hq sq (by rw [← e]; exact (h1 l hl q hq sq).1)
    rcases getE_set hq with ⟨rfl, e⟩ | ⟨hne, hq0⟩
    · cases e
      dsimp only
      rw [if_pos rfl]
      have hl : j < σ.length := by
        rw [E.len]
        have := (List.getElem?_eq_some_iff.mp hq).1
        rw [List.length_set] at this
        exact this
      refine ⟨List.getElem?_set_self hl, r, n0, ne, fun l hl hn ⟨z, hz, sz⟩ => ?_⟩
      rcases getE_set hz with ⟨e, _⟩ | ⟨_, hz⟩
      · exact absurd e hn
      · rw [if_neg hn]
        rcases List.mem_cons.mp hl with e | hl
        · exact absurd e hn
        · exact nr l hl ⟨z, hz, sz⟩
    · dsimp only
      rw [if_neg hne]
      rcases List.mem_cons.mp hj with e | hj0
      · exact absurd e hne
      · obtain ⟨k1, k2, k3, k4, k5⟩ := h1 j hj0 q hq0 sq
        refine ⟨by rw [List.getElem?_set_ne fun z => hne z.symm]; exact k1, k2, k3, k4, fun l hl hn ⟨z, hz, sz⟩ => ?_⟩
        rcases getE_set hz with ⟨rfl, _⟩ | ⟨hnl, hz⟩
        · rw [if_pos rfl]
          exact fun e => nr j hj0 ⟨q, hq0, sq⟩ e.symm
        · rw [if_neg hnl]
          rcases List.mem_cons.mp hl with e | hl
          · exact absurd e hnl
          · exact k5 l hl hn ⟨z, hz, sz⟩
  · obtain ⟨k1, k2, p', k3, sp'⟩ := h2 q hq
    have hne : q.1 ≠ i := fun z => hi (by rw [← z]; exact k1)
    refine ⟨List.mem_cons_of_mem _ k1, by dsimp only; rw [if_neg hne]; exact k2, p', ?_, sp'⟩
    rw [List.getElem?_set_ne fun z => hne z.symm]
    exact k3
end
end Lh.P
set_option Elab.async false
set_option linter.all false
set_option maxRecDepth 100000
set_option maxHeartbeats 4000000
namespace Lh.P
open PySem PySem.Spec PyProof.Rows L2 SX SkE
/-! ### either of two readings -/
section
variable {X : Cx}
def gOr (g1 g2 : TG) : TG := fun v σ H Q => g1 v σ H Q ∨ g2 v σ H Q
theorem pg_or {tg : Expr} {g1 g2 : TG} (h1 : PG X tg g1) (h2 : PG X tg g2) : PG X tg (gOr g1 g2) := by
  refine ⟨fun pins s σ H v u Q I r h => ?_⟩
  rcases h with h | h
  · exact h1.run pins s σ H v u Q I r h
  · exact h2.run pins s σ H v u Q I r h
theorem pi_or {tg iter : Expr} {w1 w2 : TI} (h1 : PI X tg iter w1) (h2 : PI X tg iter w2) : PI X tg iter (fun σ H R => w1 σ H R ∨ w2 σ H R) := by
  refine ⟨fun pins s σ H R I h => ?_⟩
  rcases h with h | h
  · exact h1.run pins s σ H R I h
  · exact h2.run pins s σ H R I h
end
/-- an own class over ValueError, directly or by way of another -/
structure ExcC (K : PySem.W.Frag) (mg : Str → Option Value) (x : Str) (C : Addr) : Prop where
  g : mg x = some (.ref C)
  ex : PySem.W.excIn K C He.veBase "ValueError.__new__" = true
  kp : PySem.W.keepIn K (.ref C) = true
  sb : PySem.W.subIn K (.ref C) (.type "BaseException") = some true
  ty : PySem.W.typeIn K (.ref C) = some (.type "type")
section
variable {X : Cx} {x : Str} {ps : List Str} {j k : Nat} {sp : Sp} {e : Expr} {es : List Expr} {p pos : Pos} {t : TA}
/-- f(a, ..), in a def that lets out what f lets out -/
theorem pclX {E : XK} (C : Cal X.prog X.w X.K X.mg X.base (L2.CX X.prog X.w) k x ps sp) (hr : Room j X.A) (tk : Takes X (fun cls d _ H => E cls d H)) (ha : PA X (e :: es) t) (hk : k ≤ j := by decide) (hg : Gl X x := by rfl) (hdb : (x == ("__debug__" : Str)) = false := by decide)
    (he : starEach (e :: es) X.env = (false, eval e X.env) :: starEach es X.env := by rfl) (hpl : (backTo pos (starEach es X.env)).any (·.1) = false := by rfl) :
    PE X (.Call (.Name x p) (e :: es) [] pos) (tCall sp [] E t) := by
  obtain ⟨f, fd, F, g, kp, b⟩ := C.ex
  exact pe_call F (hr.mono hk) hg g kp b .nil (passes_call tk fun _ _ _ _ h => h) ha hdb he hpl
/-- f(a, ..), within a try -/
theorem pclS {W : WX} (C : Cal X.prog X.w X.K X.mg X.base (L2.CX X.prog X.w) k x ps sp) (hr : Room j X.A) (tk : Takes X W) (ha : PA X (e :: es) t) (hk : k ≤ j := by decide) (hg : Gl X x := by rfl) (hdb : (x == ("__debug__" : Str)) = false := by decide)
    (he : starEach (e :: es) X.env = (false, eval e X.env) :: starEach es X.env := by rfl) (hpl : (backTo pos (starEach es X.env)).any (·.1) = false := by rfl) :
    PE X (.Call (.Name x p) (e :: es) [] pos) (tCallS sp (WE W) t) := by
  obtain ⟨f, fd, F, g, kp, b⟩ := C.ex
  exact pe_callS F (hr.mono hk) hg g kp b (fun σ => passAt tk σ) ha hdb he hpl
/-- raise X(e) -/
theorem ps_raiseC {C : Addr} {pos' : Pos} {W : WX} {te : TE} (c : ExcC X.K X.mg x C) (hc : X.calm = true) (tk : Takes X W) (he : PE X e te) (hg : Gl X x := by rfl) (hs : starEach [e] X.env = (false, eval e X.env) :: starEach [] X.env := by rfl) (hdb : (x == ("__debug__" : Str)) = false := by decide) :
    PS X (.Raise (some (.Call (.Name x p) [e] [] pos)) none pos') (fun _ σ H => te σ H fun _ H1 => W (.ref C) none σ H1) :=
  ps_raise hc tk (pmk_own1 PySem.F.excBase_ValueError c.ex c.g c.kp (raises_own c.sb c.ty) hg he hs hdb)
end
end Lh.P
set_option Elab.async false
set_option linter.all false
set_option maxRecDepth 100000
set_option maxHeartbeats 4000000
/-! Statements. -/
namespace Lh.P
open PySem PySem.Spec PyProof.Rows L2 SX

/-- how a statement ends -/
inductive Out where
  | next (Γ : Env) | ret (p : PV) (Γ : Env) | brk (Γ : Env) | cont (Γ : Env) | exc (C : Addr) (fs : List (Str × PV)) (Γ : Env) | bad
/-- what is the same through a body: the slots the caller lends, those that may be changed at a loop's ends, where an error flies; whether what is handed back is new -/
structure Md where
  IO : List Nat
  OL : List Nat
  OX : List Nat
  R : Bool
def scF : List (Str × PV) → Bool
  | [] => true
  | (_, x) :: r => scP x && scF r
def outE {α : Type} (r : Rs α) (Γ : Env) (k : α → Out) : Out := match r with
  | .ok a => k a
  | .ex C fs => if scF fs then .exc C fs Γ else .bad
  | .bad => .bad
/-- what is wanted of something new that is handed back -/
def RetO (K : PySem.W.Frag) (Z : Zn) (IO : List Nat) (Γ : Env) (p : PV) (Q : VK) : Prop := (scP p = true → ∀ v σ H0 H, EnvOk K Z IO H0 H Γ σ → Rep K H0 p v → Q v H) ∧ ∀ a σ H0 H, EnvOk K Z IO H0 H Γ σ → H0 a = none → Z.He a = none → Root K H0 H a p → Q (.ref a) H
def PostS (K : PySem.W.Frag) (W : WX) (Z : Zn) (M : Md) (O : List Nat) (D : Ends) : Out → Prop
  | .next Γ => ∀ σ H0 H, EnvOk K Z O H0 H Γ σ → D.nx σ H
  | .ret p Γ => if M.R then RetO K Z M.IO Γ p D.rt else ∀ v σ H0 H, EnvOk K Z M.IO H0 H Γ σ → Rep K H0 p v → D.rt v H
  | .brk Γ => ∀ σ H0 H, EnvOk K Z M.OL H0 H Γ σ → D.bk σ H
  | .cont Γ => ∀ σ H0 H, EnvOk K Z M.OL H0 H Γ σ → D.ct σ H
  | .exc C fs Γ => ∀ d σ H0 H, EnvOk K Z M.OX H0 H Γ σ → RepX K H0 H fs d → W (.ref C) d σ H
  | .bad => False
/-- the lent slots -/
def ioOk (Z : Zn) (M : Md) : Prop := ∀ q ∈ Z.I, q.1 ∈ M.IO
/-- a statement, a suite: from O to O' -/
def SX (X : Cx) (W : WX) (M : Md) (O O' : List Nat) (st : Stmt) (f : Env → Out) : Prop := ∀ Z Γ σ H0 H D, ioOk Z M → EnvOk X.K Z O H0 H Γ σ → PostS X.K W Z M O' D (f Γ) → tsOf X st D σ H
def BX (X : Cx) (W : WX) (M : Md) (O O' : List Nat) (sts : List Stmt) (f : Env → Out) : Prop := ∀ Z Γ σ H0 H D, ioOk Z M → EnvOk X.K Z O H0 H Γ σ → PostS X.K W Z M O' D (f Γ) → tssOf X sts D σ H
section
variable {K : PySem.W.Frag} {W : WX} {Z : Zn} {M : Md} {O O' : List Nat} {D : Ends}
theorem RepX.sc {H0 H H0' H' : Hp} {d : Option Addr} : ∀ {fs : List (Str × PV)}, scF fs = true → (∀ dx gs, H dx = some (.xd gs) → H' dx = some (.xd gs)) → RepX K H0 H fs d → RepX K H0' H' fs d := fun {fs} hs k h => by
  have key : ∀ {fs : List (Str × PV)} {gs : List (Str × V)}, scF fs = true → RepF K H0 fs gs → RepF K H0' fs gs := by
    intro fs
    induction fs with
    | nil => intro gs _ r; cases gs with
      | nil => trivial
      | cons _ _ => exact False.elim r
    | cons q fs ih =>
      obtain ⟨f, x⟩ := q
      intro gs hs r
      cases gs with
      | nil => exact False.elim r
      | cons q gs =>
        obtain ⟨g, v⟩ := q
        obtain ⟨e, r1, r2⟩ := r
        have hs : (scP x && scF fs) = true := hs
        rw [Bool.and_eq_true] at hs
        refine ⟨e, ?_, ih hs.2 r2⟩
        cases x with
        | non => exact r1
        | bl b => exact r1
        | int b => exact r1
        | str b => exact r1
        | _ => exact absurd hs.1 (by show ¬ (false = true); decide)
  rcases h with h | ⟨dx, gs, e, h1, h2⟩
  · exact .inl h
  · exact .inr ⟨dx, gs, e, k _ _ h1, key hs h2.1, h2.2⟩
/-- slots told for good at a statement's end -/
theorem PostS.sub {O2 : List Nat} (io : ioOk Z M) (h : ∀ j ∈ O2, j ∈ O') (hI : ∀ j ∈ M.IO, j ∈ O2) : ∀ {o : Out}, PostS K W Z M O2 D o → PostS K W Z M O' D o
  | .next Γ, p => fun σ H0 H E => by
    obtain ⟨H0', _, _, E'⟩ := E.freeze h fun q hq => hI _ (io q hq)
    exact p σ H0' H E'
  | .ret _ _, p => p
  | .brk _, p => p
  | .cont _, p => p
  | .exc _ _ _, p => p
  | .bad, p => p
end
section
variable {X : Cx} {W : WX} {M : Md} {V O O' OA OB : List Nat} {e c : Expr} {st : Stmt} {sts a b : List Stmt} {pos : Pos}
/-! ### suites -/
theorem bx_nil : BX X W M O O [] .next := fun Z Γ σ H0 H D io E p => PSs.to pss_nil (p σ H0 H E)
def thenB (f g : Env → Out) : Env → Out := fun Γ => match f Γ with
  | .next Γ' => g Γ'
  | o => o
theorem bx_one {f : Env → Out} (h : SX X W M O O' st f) : BX X W M O O' [st] f := fun Z Γ σ H0 H D io E p => PSs.to (pss_one ps_of) (h Z Γ σ H0 H D io E p)
theorem bx_cons {f g : Env → Out} (h : SX X W M O OA st f) (hs : BX X W M OA O' sts g) : BX X W M O O' (st :: sts) (thenB f g) := fun Z Γ σ H0 H D io E p => by
  refine PSs.to (pss_cons ps_of pss_of) (h Z Γ σ H0 H _ io E ?_)
  unfold thenB at p
  cases hf : f Γ with
  | next Γ' =>
    rw [hf] at p
    exact fun σ' H0' H' E' => hs Z Γ' σ' H0' H' D io E' p
  | _ => rw [hf] at p; exact p
/-- fewer slots that may be changed -/
theorem bx_less {f : Env → Out} (hI : ∀ j ∈ M.IO, j ∈ OA) (h : ∀ j ∈ OA, j ∈ O) (hb : BX X W M OA O' sts f) : BX X W M O O' sts f := fun Z Γ σ H0 H D io E p => by
  obtain ⟨H0', _, _, E'⟩ := E.freeze h fun q hq => hI _ (io q hq)
  exact hb Z Γ σ H0' H D io E' p
theorem bx_out {f : Env → Out} (hI : ∀ j ∈ M.IO, j ∈ OA) (h : ∀ j ∈ OA, j ∈ O') (hb : BX X W M O O' sts f) : BX X W M O OA sts f := fun Z Γ σ H0 H D io E p => hb Z Γ σ H0 H D io E (p.sub io h hI)
/-! ### an expression within a statement -/
/-- how the slots stand to each other: the lent ones, those an error needs -/
structure OkO (M : Md) (O : List Nat) : Prop where
  io : ∀ j ∈ M.IO, j ∈ M.OX
  ox : ∀ j ∈ M.OX, j ∈ O
/-- an error that flies out of an expression -/
theorem exn_out {Z : Zn} {Γ : Env} {σ : L2.St} {D : Ends} {α : Type} {r : Rs α} {k : α → Out} {C : Addr} {fs : List (Str × PV)} {d : Option Addr} {H0 H : Hp} {H0' : Hp} (io : ioOk Z M) (ok : OkO M O) (p : PostS X.K W Z M O' D (outE r Γ k)) (hr : r = .ex C fs) (E : EnvOk X.K Z O H0 H Γ σ) (rx : RepX X.K H0' H fs d) : W (.ref C) d σ H := by
  rw [hr] at p
  unfold outE at p
  dsimp only at p
  split at p
  · rename_i hs
    obtain ⟨H1, _, _, E'⟩ := E.freeze ok.ox fun q hq => ok.io _ (io q hq)
    exact p d σ H1 H E' (RepX.sc hs (fun _ _ z => z) rx)
  · exact False.elim p
theorem bad_out {Z : Zn} {Γ : Env} {D : Ends} {α : Type} {r : Rs α} {k : α → Out} (p : PostS X.K W Z M O' D (outE r Γ k)) : r ≠ .bad := fun hr => by
  rw [hr] at p; exact p
/-- what is known behind an expression to which the changeable slots of S were lent -/
def Lent (K : PySem.W.Frag) (Z : Zn) (O : List Nat) (Γ : Env) (σ : L2.St) (S : Nat → Prop) (H0 H H0' H' : Hp) : Prop := Same H H' ∧
    (∀ O', (∀ j, j ∈ O' ↔ j ∈ O ∧ ¬ S j) → (∀ q ∈ Z.I, q.1 ∈ O') → EnvOk K Z O' H0' H' Γ σ) ∧
    ∃ H0'', EnvOk K Z O H0'' H' Γ σ ∧ Same H0 H0'' ∧ Same H0'' H0' ∧ (∀ a, H a = none → H0'' a = H0' a) ∧ ∀ p v, (∀ i ∈ O, S i → ∀ q, Γ[i]? = some (some q) → away p q = true) → Rep K H0' p v → Rep K H0'' p v
section
variable {Z : Zn} {Γ : Env} {σ : L2.St} {H0 H : Hp} {D : Ends} {S : Nat → Prop}
theorem lend_post {α : Type} {good : α → Hp → Hp → Prop} (io : ioOk Z M) (ok : OkO M O) (E : EnvOk X.K Z O H0 H Γ σ) {r : Rs α} {k : α → Out} (p : PostS X.K W Z M O' D (outE r Γ k)) (S : Nat → Prop) (hV : ∀ j ∈ V, j ∈ O → S j) {R : Hp → Hp → Prop}
    (go : ∀ H0p, Shr X.K V H0p Γ σ → Same H0p H → Post X.K W σ good H0p H r → R H0 H)
    (fin : ∀ a H0' H', r = .ok a → PostS X.K W Z M O' D (k a) → Lent X.K Z O Γ σ S H0 H H0' H' → good a H0' H') : R H0 H := by
  obtain ⟨H0p, s0, sH, sh, bk⟩ := E.lend S
  refine go H0p ⟨E.len, fun i hi q hq => sh i q hq fun ho => hV i hi ho⟩ sH ?_
  cases hr : r with
  | ok a =>
    intro H0' H' g
    refine fin a H0' H' hr (by rw [hr] at p; exact p) ?_
    obtain ⟨b1, b2⟩ := bk H0' H' g
    exact ⟨g.b, b1, b2⟩
  | ex C fs =>
    intro d H0' H' g rx
    obtain ⟨_, H0'', E2, _⟩ := bk H0' H' g
    exact exn_out io ok p hr E2 rx
  | bad => exact bad_out p hr
end
/-- the statements' ends -/
def dSet (i : Nat) (f : Env → Rs PV) : Env → Out := fun Γ => outE (f Γ) Γ fun p => .next (Γ.set i (some p))
def dSetR (V O : List Nat) (i : Nat) (f : Env → Rs PV) : Env → Out := fun Γ => outE (f Γ) Γ fun p => if sep V O Γ (away p) then .next (Γ.set i (some p)) else .bad
def dSetOR (V O : List Nat) (i : Nat) (f : Env → Rs PV) : Env → Out := fun Γ => outE (f Γ) Γ fun p => match p with
  | .lst xs => if sep V O Γ (awayS xs) then .next (Γ.set i (some (.lst xs))) else .bad
  | _ => .bad
def dDrop (f : Env → Rs PV) : Env → Out := fun Γ => outE (f Γ) Γ fun _ => .next Γ
def dRet (f : Env → Rs PV) : Env → Out := fun Γ => outE (f Γ) Γ fun p => .ret p Γ
def dRetR (V O : List Nat) (f : Env → Rs PV) : Env → Out := fun Γ => outE (f Γ) Γ fun p => if sep V O Γ (away p) then .ret p Γ else .bad
def dRetV (i : Nat) : Env → Out := fun Γ => match Γ[i]? with
  | some (some p) => .ret p (Γ.set i none)
  | _ => .bad
def dRetN : Env → Out := fun Γ => .ret .non Γ
/-- the value is stored; the slots that it reads are told for good -/
theorem s_set {i : Nat} {f : Env → Rs PV} (ps : ∀ te, PE X e te → PS X st (tAsg te (gName i))) (he : EX X W V e f) (hO : ∀ j ∈ O', j ∈ O ∧ j ∉ V ∧ j ≠ i) (hI : ∀ j ∈ M.IO, j ∈ O') (ok : OkO M O) :
    SX X W M O O' st (dSet i f) := fun Z Γ σ H0 H D io E p => by
  refine PS.to (ps _ pe_of) ?_
  show tOf X e σ H fun x H1 => D.nx (σ.set i (some x)) H1
  refine lend_post (V := V) (R := fun _ H => tOf X e σ H fun x H1 => D.nx (σ.set i (some x)) H1) io ok E p (fun j => j ∉ O') (fun j hj _ z => (hO j z).2.1 hj) (fun H0p sh sm q => he Γ σ H0p H _ sh sm q) fun a H0' H' _ pn L v r => ?_
  have E2 := L.2.1 O' (fun j => ⟨fun z => ⟨(hO j z).1, fun y => y z⟩, fun z => Classical.byContradiction z.2⟩) fun q hq => hI _ (io q hq)
  exact pn _ _ _ (E2.put (fun z => (hO i z).2.2 rfl) r)
/-- the value is stored; it holds nothing that could be changed -/
theorem s_setR {i : Nat} {f : Env → Rs PV} (ps : ∀ te, PE X e te → PS X st (tAsg te (gName i))) (he : EX X W V e f) (hO : ∀ j ∈ O', j ∈ O ∧ j ≠ i) (hI : ∀ j ∈ M.IO, j ∈ O') (ok : OkO M O) :
    SX X W M O O' st (dSetR V O i f) := fun Z Γ σ H0 H D io E p => by
  refine PS.to (ps _ pe_of) ?_
  show tOf X e σ H fun x H1 => D.nx (σ.set i (some x)) H1
  refine lend_post (V := V) (R := fun _ H => tOf X e σ H fun x H1 => D.nx (σ.set i (some x)) H1) io ok E p (fun j => j ∈ V) (fun j hj _ => hj) (fun H0p sh sm q => he Γ σ H0p H _ sh sm q) fun a H0' H' _ pn L v r => ?_
  split at pn
  · rename_i hs
    obtain ⟨_, _, H0'', E2, _, _, _, aw⟩ := L
    obtain ⟨H1, s1, _, E3⟩ := E2.freeze (fun j hj => (hO j hj).1) fun q hq => hI _ (io q hq)
    refine pn _ _ _ (E3.put (fun z => (hO i z).2 rfl) (Rep.mono s1 _ _ (aw a v (fun j hj hv q hq => ?_) r)))
    unfold sep at hs
    have := List.all_eq_true.mp hs j hj
    rw [if_pos hv, hq] at this
    exact this
  · exact False.elim pn
theorem own_apart {Z : Zn} {Γ : Env} {σ : L2.St} {H0 H : Hp} {a : Addr} (E : EnvOk X.K Z O H0 H Γ σ) (n : H a = none) : ∀ j ∈ O, ∀ q, Γ[j]? = some (some q) → scP q = false → σ[j]? ≠ some (some (.ref a)) := by
  obtain ⟨ρ, h1, _⟩ := E.own
  intro j hj q hq sq e
  obtain ⟨k1, k2, _⟩ := h1 j hj q hq sq
  rw [k1] at e
  obtain ⟨u, hu⟩ := k2.known
  have e2 : ρ j = a := by cases e; rfl
  rw [e2, n] at hu
  cases hu
/-- something new is stored; it may be changed from now on; the slots that it reads are told for good -/
theorem s_setO {i : Nat} {f : Env → Rs PV} {O1 : List Nat} {te : TE} (ps : PS X st (tAsg te (gName i))) (he : OT X W V te f) (hO : ∀ j ∈ O1, j ∈ O ∧ j ∉ V ∧ j ≠ i) (hI : ∀ j ∈ M.IO, j ∈ O1) (ok : OkO M O) :
    SX X W M O (i :: O1) st (dSet i f) := fun Z Γ σ H0 H D io E p => by
  refine PS.to ps ?_
  show te σ H fun x H1 => D.nx (σ.set i (some x)) H1
  refine lend_post (V := V) (R := fun _ H => te σ H fun x H1 => D.nx (σ.set i (some x)) H1) io ok E p (fun j => j ∉ O1) (fun j hj _ z => (hO j z).2.1 hj) (fun H0p sh sm q => he Γ σ H0p H _ sh sm q) fun a H0' H' _ pn L => ?_
  have E2 := L.2.1 O1 (fun j => ⟨fun z => ⟨(hO j z).1, fun y => y z⟩, fun z => Classical.byContradiction z.2⟩) fun q hq => hI _ (io q hq)
  exact ⟨fun s v r => pn _ _ _ (E2.putS (fun z => (hO i z).2.2 rfl) r s), fun p n n0 r => pn _ _ _ (E2.putO (Hs := H) (fun z => (hO i z).2.2 rfl) r n0 (none_back E.b n) fun j hj q hq => own_apart E n j (hO j hj).1 q hq)⟩
theorem reps_away {K : PySem.W.Frag} {H0' H0'' : Hp} : ∀ {xs : List PV} {vs : List L2.V}, (∀ x ∈ xs, ∀ v, Rep K H0' x v → Rep K H0'' x v) → Reps K H0' xs vs → Reps K H0'' xs vs
  | [], [], _, _ => trivial
  | [], _ :: _, _, h => False.elim h
  | _ :: _, [], _, h => False.elim h
  | x :: xs, v :: vs, k, ⟨h1, h2⟩ => ⟨k x List.mem_cons_self v h1, reps_away (fun y hy => k y (List.mem_cons_of_mem _ hy)) h2⟩
theorem noQs_mem {k : Kd} {x : PV} : ∀ {xs : List PV}, noQs k xs = true → x ∈ xs → noQ k x = true
  | [], _, hx => by cases hx
  | y :: xs, h, hx => by
    unfold noQs at h
    rw [Bool.and_eq_true] at h
    rcases List.mem_cons.mp hx with rfl | hx
    · exact h.1
    · exact noQs_mem h.2 hx
theorem awayS_mem {xs : List PV} {q x : PV} (h : awayS xs q = true) (hx : x ∈ xs) : away x q = true := by
  cases q with
  | lst ys => exact noQs_mem h hx
  | ins C fs => exact noQs_mem h hx
  | dic ks => exact noQs_mem h hx
  | _ => exact h
def inside : PV → List PV
  | .lst xs => xs
  | _ => []
/-- the same; its items hold nothing that could be changed -/
theorem s_setOR {i : Nat} {f : Env → Rs PV} {O1 : List Nat} {te : TE} (ps : PS X st (tAsg te (gName i))) (he : OT X W V te f) (hO : ∀ j ∈ O1, j ∈ O ∧ j ≠ i) (hI : ∀ j ∈ M.IO, j ∈ O1) (ok : OkO M O) :
    SX X W M O (i :: O1) st (dSetOR V O i f) := fun Z Γ σ H0 H D io E p => by
  refine PS.to ps ?_
  show te σ H fun x H1 => D.nx (σ.set i (some x)) H1
  refine lend_post (V := V) (R := fun _ H => te σ H fun x H1 => D.nx (σ.set i (some x)) H1) io ok E p (fun j => j ∈ V) (fun j hj _ => hj) (fun H0p sh sm q => he Γ σ H0p H _ sh sm q) fun p H0' H' _ pn L => ?_
  cases p with
  | lst xs =>
    refine ⟨fun z => (by cases z), fun a n n0 r => ?_⟩
    dsimp only at pn
    split at pn
    · rename_i hs
      obtain ⟨_, _, H0'', E2, _, s2, sa, aw⟩ := L
      obtain ⟨vs, hv, rs⟩ := r
      have rs2 : Reps X.K H0'' xs vs := reps_away (fun x hx v r => aw x v (fun j hj hv q hq => by
        unfold sep at hs
        have := List.all_eq_true.mp hs j hj
        rw [if_pos hv, hq] at this
        exact awayS_mem this hx) r) rs
      obtain ⟨H1, s1, s3, E3⟩ := E2.freeze (fun j hj => (hO j hj).1) fun q hq => hI _ (io q hq)
      refine pn _ _ _ (E3.putO (Hs := H) (fun z => (hO i z).2 rfl) ⟨vs, hv, Reps.mono s1 _ _ rs2⟩ ?_ (none_back E.b n) fun j hj q hq => own_apart E n j (hO j hj).1 q hq)
      cases e : H1 a with
      | none => rfl
      | some o =>
        rcases s3 a (by rw [e]; simp) with z | ⟨_, j, hj, q, hq, sq, hs⟩
        · exact absurd ((sa a n).trans n0) z
        · exact absurd hs (own_apart E n j hj q hq sq)
    · exact False.elim pn
  | _ => exact False.elim pn
/-- the value is dropped -/
theorem s_drop {f : Env → Rs PV} (ps : ∀ te, PE X e te → PS X st (tDrop te)) (he : EX X W V e f) (ok : OkO M O) : SX X W M O O st (dDrop f) := fun Z Γ σ H0 H D io E p => by
  refine PS.to (ps _ pe_of) ?_
  show tOf X e σ H fun x H1 => D.nx σ H1
  refine lend_post (V := V) (R := fun _ H => tOf X e σ H fun x H1 => D.nx σ H1) io ok E p (fun j => j ∈ V) (fun j hj _ => hj) (fun H0p sh sm q => he Γ σ H0p H _ sh sm q) fun a H0' H' _ pn L v r => ?_
  obtain ⟨_, _, H0'', E2, _⟩ := L
  exact pn _ _ _ E2
/-! ### return -/
theorem s_ret {f : Env → Rs PV} (hR : M.R = false) (he : EX X W V e f) (hV : ∀ j ∈ V, j ∉ M.IO) (ok : OkO M O) : SX X W M O O' (.Return (some e) pos) (dRet f) := fun Z Γ σ H0 H D io E p => by
  refine PS.to (ps_ret pe_of) ?_
  show tOf X e σ H D.rt
  refine lend_post (V := V) (R := fun _ H => tOf X e σ H D.rt) io ok E p (fun j => j ∉ M.IO) (fun j hj _ => hV j hj) (fun H0p sh sm q => he Γ σ H0p H _ sh sm q) fun a H0' H' _ pn L v r => ?_
  have E2 := L.2.1 M.IO (fun j => ⟨fun z => ⟨ok.ox j (ok.io j z), fun y => y z⟩, fun z => Classical.byContradiction z.2⟩) fun q hq => io q hq
  have pn : if M.R then _ else ∀ v σ H0 H, EnvOk X.K Z M.IO H0 H Γ σ → Rep X.K H0 a v → D.rt v H := pn
  rw [hR] at pn
  exact pn v _ _ _ E2 r
/-- what is handed back holds nothing that the caller's slots could share -/
theorem s_retR {f : Env → Rs PV} (hR : M.R = false) (he : EX X W V e f) (ok : OkO M O) : SX X W M O O' (.Return (some e) pos) (dRetR V O f) := fun Z Γ σ H0 H D io E p => by
  refine PS.to (ps_ret pe_of) ?_
  show tOf X e σ H D.rt
  refine lend_post (V := V) (R := fun _ H => tOf X e σ H D.rt) io ok E p (fun j => j ∈ V) (fun j hj _ => hj) (fun H0p sh sm q => he Γ σ H0p H _ sh sm q) fun a H0' H' _ pn L v r => ?_
  split at pn
  · rename_i hs
    obtain ⟨_, _, H0'', E2, _, _, _, aw⟩ := L
    obtain ⟨H1, s1, _, E3⟩ := E2.freeze (fun j hj => ok.ox j (ok.io j hj)) fun q hq => io q hq
    have pn : if M.R then _ else ∀ v σ H0 H, EnvOk X.K Z M.IO H0 H Γ σ → Rep X.K H0 a v → D.rt v H := pn
    rw [hR] at pn
    refine pn v _ _ _ E3 (Rep.mono s1 _ _ (aw a v (fun j hj hv q hq => ?_) r))
    unfold sep at hs
    have := List.all_eq_true.mp hs j hj
    rw [if_pos hv, hq] at this
    exact this
  · exact False.elim pn
theorem s_retO {f : Env → Rs PV} (hR : M.R = true) (he : OX X W V e f) (hV : ∀ j ∈ V, j ∉ M.IO) (ok : OkO M O) : SX X W M O O' (.Return (some e) pos) (dRet f) := fun Z Γ σ H0 H D io E p => by
  refine PS.to (ps_ret pe_of) ?_
  show tOf X e σ H D.rt
  refine lend_post (V := V) (R := fun _ H => tOf X e σ H D.rt) io ok E p (fun j => j ∉ M.IO) (fun j hj _ => hV j hj) (fun H0p sh sm q => he Γ σ H0p H _ sh sm q) fun p H0' H' _ pn L => ?_
  have E2 := L.2.1 M.IO (fun j => ⟨fun z => ⟨ok.ox j (ok.io j z), fun y => y z⟩, fun z => Classical.byContradiction z.2⟩) fun q hq => io q hq
  have pn : if M.R then RetO X.K Z M.IO Γ p D.rt else _ := pn
  rw [hR] at pn
  exact ⟨fun s v r => pn.1 s v _ _ _ E2 r, fun a n n0 r => pn.2 a _ _ _ E2 n0 (none_back E.b n) r⟩
/-- a slot forgotten -/
theorem EnvOk.drop {K : PySem.W.Frag} {Z : Zn} {Γ : Env} {σ : L2.St} {H0 H : Hp} {i : Nat} (E : EnvOk K Z (i :: O) H0 H Γ σ) (hi : i ∉ O) (hI : ∀ q ∈ Z.I, q.1 ∈ O) : EnvOk K Z O H0 H (Γ.set i none) σ := by
  obtain ⟨ρ, h1, h2⟩ := E.own
  have get : ∀ {j : Nat} {p : PV}, (Γ.set i none)[j]? = some (some p) → j ≠ i ∧ Γ[j]? = some (some p) := fun {j p} h => by
    rcases getE_set h with ⟨_, e⟩ | h
    · cases e
    · exact h
  refine ⟨by rw [List.length_set]; exact E.len, E.a, E.b, E.c, E.d, fun j q hq hj => ?_, ρ, fun j hj q hq sq => ?_, fun q hq => ?_⟩
  · obtain ⟨hne, hq⟩ := get hq
    exact E.vals j q hq (hj.imp (fun hj z => (List.mem_cons.mp z).elim hne hj) fun z => z)
  · obtain ⟨hne, hq⟩ := get hq
    obtain ⟨k1, k2, k3, k4, k5⟩ := h1 j (List.mem_cons_of_mem _ hj) q hq sq
    exact ⟨k1, k2, k3, k4, fun l hl hn ⟨z, hz, sz⟩ => k5 l (List.mem_cons_of_mem _ hl) hn ⟨z, (get hz).2, sz⟩⟩
  · obtain ⟨k1, k2, p, k3, sp⟩ := h2 q hq
    have := hI q hq
    refine ⟨this, k2, p, ?_, sp⟩
    rw [List.getElem?_set_ne fun z => hi (by rw [z]; exact this)]
    exact k3
/-- return xs, xs a new list of this body -/
theorem s_retV {i : Nat} (hR : M.R = true) (h : PE X e (tVar i)) (hi : i ∈ O) (hi2 : i ∉ M.IO) (ok : OkO M O) : SX X W M O O' (.Return (some e) pos) (dRetV i) := fun Z Γ σ H0 H D io E p => by
  refine PS.to (ps_ret h) ?_
  have p : PostS X.K W Z M O' D (match Γ[i]? with
    | some (some p) => .ret p (Γ.set i none)
    | _ => .bad) := p
  cases hp : Γ[i]? with
  | none => rw [hp] at p; exact False.elim p
  | some o =>
    cases o with
    | none => rw [hp] at p; exact False.elim p
    | some q =>
      rw [hp] at p
      obtain ⟨H1, s1, _, E3⟩ := E.freeze (O' := i :: M.IO) (fun j hj => (List.mem_cons.mp hj).elim (fun e => by rw [e]; exact hi) fun z => ok.ox j (ok.io j z)) fun q hq => List.mem_cons_of_mem _ (io q hq)
      have p : if M.R then RetO X.K Z M.IO (Γ.set i none) q D.rt else _ := p
      rw [hR] at p
      by_cases sq : scP q = true
      · obtain ⟨v, k1, k2⟩ := E3.vals i q hp (.inr sq)
        exact ⟨_, k1, p.1 sq _ _ _ _ (E3.drop hi2 fun q hq => io q hq) k2⟩
      obtain ⟨ρ, h1, _⟩ := E3.own
      obtain ⟨k1, k2, k3, k4, _⟩ := h1 i List.mem_cons_self q hp (by simpa using sq)
      exact ⟨_, k1, p.2 _ _ _ _ (E3.drop hi2 fun q hq => io q hq) k3 k4 k2⟩
theorem s_retN (hR : M.R = false) (ok : OkO M O) : SX X W M O O' (.Return none pos) dRetN := fun Z Γ σ H0 H D io E p => by
  refine PS.to ps_retN ?_
  obtain ⟨H1, s1, _, E3⟩ := E.freeze (fun j hj => ok.ox j (ok.io j hj)) fun q hq => io q hq
  have p : if M.R then _ else ∀ v σ H0 H, EnvOk X.K Z M.IO H0 H Γ σ → Rep X.K H0 PV.non v → D.rt v H := p
  rw [hR] at p
  exact p _ _ _ _ E3 rfl
theorem s_retNO (hR : M.R = true) (ok : OkO M O) : SX X W M O O' (.Return none pos) dRetN := fun Z Γ σ H0 H D io E p => by
  refine PS.to ps_retN ?_
  obtain ⟨H1, s1, _, E3⟩ := E.freeze (fun j hj => ok.ox j (ok.io j hj)) fun q hq => io q hq
  have p : if M.R then RetO X.K Z M.IO Γ .non D.rt else _ := p
  rw [hR] at p
  exact p.1 rfl _ _ _ _ E3 rfl
theorem s_pass : SX X W M O O (.Pass pos) .next := fun Z Γ σ H0 H D io E p => PS.to ps_pass (p σ H0 H E)
theorem s_brk (h : ∀ j ∈ M.OL, j ∈ O) (hI : ∀ j ∈ M.IO, j ∈ M.OL) : SX X W M O O' (.Break pos) .brk := fun Z Γ σ H0 H D io E p => by
  obtain ⟨H1, _, _, E3⟩ := E.freeze h fun q hq => hI _ (io q hq)
  exact PS.to ps_break (p σ H1 H E3)
theorem s_cont (h : ∀ j ∈ M.OL, j ∈ O) (hI : ∀ j ∈ M.IO, j ∈ M.OL) : SX X W M O O' (.Continue pos) .cont := fun Z Γ σ H0 H D io E p => by
  obtain ⟨H1, _, _, E3⟩ := E.freeze h fun q hq => hI _ (io q hq)
  exact PS.to ps_continue (p σ H1 H E3)
/-! ### if -/
def ifB (c : Env → Rs Bool) (f g : Env → Out) : Env → Out := fun Γ => outE (c Γ) Γ fun b => if b = true then f Γ else g Γ
theorem s_if {t : Env → Rs Bool} {f g : Env → Out} (hc : TX X W V c t) (ha : BX X W M O O' a f) (hb : BX X W M O O' b g) (ok : OkO M O) : SX X W M O O' (.If c a b pos) (ifB t f g) := fun Z Γ σ H0 H D io E p => by
  refine PS.to (ps_if pt_of pss_of pss_of) ?_
  show ttOf X c σ H fun k H1 => if k = true then tssOf X a D σ H1 else tssOf X b D σ H1
  refine lend_post (V := V) (R := fun _ H => ttOf X c σ H fun k H1 => if k = true then tssOf X a D σ H1 else tssOf X b D σ H1) io ok E p (fun j => j ∈ V) (fun j hj _ => hj) (fun H0p sh sm q => hc Γ σ H0p H _ sh sm q) fun k H0' H' _ pn L => ?_
  obtain ⟨_, _, H0'', E2, _⟩ := L
  show if k = true then tssOf X a D σ H' else tssOf X b D σ H'
  cases k with
  | true => exact ha Z Γ σ H0'' H' D io E2 pn
  | false => exact hb Z Γ σ H0'' H' D io E2 pn
end
end Lh.P
set_option Elab.async false
set_option linter.all false
set_option maxRecDepth 100000
/-! A walk that hands out pairs (the library's WalksT) as an iterator of the hand layer: told once, for whatever draws its items. -/
namespace Lh
open PySem PyProof.Rows L2
section
variable {X : Cx} {z : Addr} {own own' : List Addr} {n i : Nat} {Pt : Nat → Array Value → Prop} {St : Nat → Heap → Prop} {Md : Nat → Addr → Heap → Prop}
  {pins : List (Addr × Obj)} {s : Shared} {σ : L2.St} {H : Hp} {E R : Value → Shared → Prop} {x y : V}
/-- a turn: a new pair of x and y -/
theorem pair_turn {es : List Expr} {k : Nat} {tp : Pos} (W : WalksT X.prog X.w X.A z own' own n Pt St Md) (iv : Inv X pins σ H s) (ok : ∀ b ∈ own, FpOk X pins H b) (lt : i < n) (st : St i s.heap)
    (says : ∀ vals, Pt i vals → ∃ u v, vals = #[u, v] ∧ RelV x u ∧ RelV y v)
    (fin : ∀ T s2, H T = none → (T ∉ own ∧ s.heap.objs.size ≤ T) → Inv X pins σ (upd H T (.tup [x, y])) s2 → St (i + 1) s2.heap → R (.ref T) s2) :
    wpAny (model X.prog X.w) X.A (pyNext (.ref z)) (fun r s1 => ∃ u, r = some u ∧ wpAny (model X.prog X.w) X.A (letOwnedTupleGo (.Tuple es k tp) (.ref z) u)
      (fun _ s2 => R u s2) E s1) E s := by
  refine W.item i s _ E lt st fun T vals h1 t1 hp le tup mid k1 => ⟨.ref T, rfl, W.go es k tp i T _ _ E mid fun h2 st2 k2 => ?_⟩
  obtain ⟨u, v, rfl, ru, rv⟩ := says vals hp
  have far : T ∉ own := W.apart _ _ _ mid
  have tup2 : h2.IsTuple T #[u, v] := tup.at fun o e => k2 T o far e
  have two : (2 : Nat) ≤ sizeLine := by decide
  refine fin T _ (iv.hok.fresh le) ⟨far, le⟩ ?_ st2
  exact iv.turnedNew (fun b o hb e => k2 b o hb (k1 b o hb e)) ok le ⟨two, [u, v], .cons ru (.cons rv .nil), tup2⟩
/-- behind the last turn -/
theorem pair_done (W : WalksT X.prog X.w X.A z own' own n Pt St Md) (iv : Inv X pins σ H s) (ok : ∀ b ∈ own, FpOk X pins H b) (st : St n s.heap) :
    wpAny (model X.prog X.w) X.A (pyNext (.ref z)) (fun r s1 => r = none ∧ Inv X pins σ H s1) E s :=
  W.done s _ E st fun _ _ k => ⟨rfl, iv.turnedL k ok⟩
end

/-! ### rows: a list or a tuple, and what draws from it -/
/-- the row at a: of a list (true) or of a tuple -/
def Row (K : PySem.W.Frag) (k : Bool) (H : Hp) (a : Addr) (xs : List V) : Prop := cond k (SqL K H a xs) (SqT K H a xs)
def RowIs (k : Bool) (h : Heap) (a : Addr) (us : Array Value) : Prop := cond k (h.IsList a us) (h.IsTuple a us)
def RowAt (k : Bool) (h : Heap) (it a : Addr) (i : Nat) : Prop := cond k (h.IsListIter it a i) (h.IsTupleIter it a i)
theorem row_read {X : Cx} {pins : List (Addr × Obj)} {s : Shared} {σ : L2.St} {H : Hp} (iv : Inv X pins σ H s) : ∀ {k : Bool} {a : Addr} {xs : List V}, Row X.K k H a xs → ∃ us : List Value, Vals xs us ∧ RowIs k s.heap a us.toArray ∧ a < s.heap.objs.size
  | true, a, xs, h => let ⟨us, r, p, _⟩ := iv.list h; ⟨us, r, p.isList, p.lt⟩
  | false, a, xs, h => let ⟨us, r, p, _⟩ := iv.tuple h; ⟨us, r, p, let ⟨_, e, _⟩ := p; Heap.lt_size e⟩
theorem row_one {X : Cx} {pins : List (Addr × Obj)} {s : Shared} {σ : L2.St} {H : Hp} (iv : Inv X pins σ H s) : ∀ {k : Bool} {a : Addr} {xs ys : List V}, Row X.K k H a xs → Row X.K k H a ys → xs = ys
  | true, _, _, _, h, g => iv.list_inj h g
  | false, _, _, _, h, g => iv.tuple_inj h g
/-- what draws from the row -/
theorem row_draws {P : Program} {w : World} {A : Around} (hd : A.handled = none) {it a : Addr} (ne : a ≠ it) (us : Array Value) : ∀ k : Bool, Draws P w A it [it, a] us.size (fun i v => us[i]? = some v) (fun i h => RowAt k h it a i ∧ RowIs k h a us)
  | true => Draws.list hd it a ne us
  | false => Draws.tuple hd it a ne us
/-- the iterator that a row begins -/
def rowIt (k : Bool) (a : Addr) : Obj := { cls := .type (cond k "list_iterator" "tuple_iterator"), data := .fields #[.ref a, .int 0 0] }
theorem row_begins (k : Bool) (a : Addr) (us : Array Value) : Begins (.ref a) (rowIt k a) (fun h => RowIs k h a us) := by
  cases k
  · exact begins_tuple a us
  · exact begins_list a us
theorem row_at0 {h : Heap} {it a : Addr} : ∀ {k : Bool}, h.get? it = some (rowIt k a) → RowAt k h it a 0
  | true, e => ⟨_, e, rfl, rfl⟩
  | false, e => ⟨_, e, rfl, rfl⟩
theorem row_keep {h h' : Heap} {it a : Addr} {i : Nat} (hk : ∀ o, h.get? it = some o → h'.get? it = some o) : ∀ {k : Bool}, RowAt k h it a i → RowAt k h' it a i
  | true, r => r.at hk
  | false, r => r.at hk
theorem row_cell {h : Heap} {it a : Addr} {i : Nat} : ∀ {k : Bool}, RowAt k h it a i → ∃ o, h.get? it = some o ∧ ∀ v, o.data ≠ .cell v
  | true, ⟨o, e, _, d⟩ => ⟨o, e, fun v z => by rw [d] at z; cases z⟩
  | false, ⟨o, e, _, d⟩ => ⟨o, e, fun v z => by rw [d] at z; cases z⟩
theorem draw_rel {xs : List V} {us : List Value} {i : Nat} {x : V} {u : Value} (r : Vals xs us) (hx : xs[i]? = some x) (hu : us.toArray[i]? = some u) : RelV x u := by
  obtain ⟨u', e, ru⟩ := r.get hx
  rw [List.getElem?_toArray, e] at hu
  cases hu
  exact ru
end Lh
set_option Elab.async false
set_option linter.all false
set_option maxRecDepth 100000
/-! enumerate of a tuple: an instance of LhTurns. -/
namespace Lh
open PySem PySem.Spec PyProof.Rows L2
/-- the two cells that enumerate(v) makes -/
abbrev enCells (h : Heap) (o : Obj) : Heap := (h.push o).push ⟨.type "enumerate", none, .fields #[.none, .bool false, .ref h.objs.size, rawInt 0, .none, .none], #[]⟩
theorem new_enum1 {v : Value} {o : Obj} {H : Heap → Prop} (B : Begins v o H) : Meets (Builtin.«enumerate.__new__» ⟨[.type "enumerate", v], []⟩)
    (fun _ R s => H s.heap ∧ R (.ok (.ret (.ref (s.heap.objs.size + 1)))) { s with heap := enCells s.heap o }) := by
  refine .of_wp fun prog w A R s ⟨hv, fin⟩ => ?_
  cases s with | mk hp g d tk os =>
  have sz : (hp.push o).objs.size = hp.objs.size + 1 := Heap.size_push ..
  have sub := sub_enumerate
  have begin' : ∀ {A' : Around} {E Q : Value → Shared → Prop}, Q (.ref hp.objs.size) ⟨hp.push o, g, d, tk, os⟩ → wpAny (model prog w) A' (pyIter v) Q E ⟨hp, g, d, tk, os⟩ := fun q => B.iter _ _ _ _ _ _ hv q
  have fin' : R (.ok (.ret (.ref (hp.push o).objs.size))) ⟨enCells hp o, g, d, tk, os⟩ := by rw [sz]; exact fin
  wp_walk using begin'
  refine wpAny_stack_any fun st => wpAny_pure ?_
  split
  case h_1 c _ _ _ _ _ => cases (c == Value.type "enumerate") <;> (wp_walk using begin'; exact ⟨_, rfl, fin'⟩)
  case h_2 => wp_walk using begin'; exact ⟨_, rfl, fin'⟩
/-- enumerate(v) -/
theorem enum1 {prog : Program} {w : World} {A : Around} {E Q : Value → Shared → Prop} {s : Shared} {v : Value} {o : Obj} {H : Heap → Prop} (B : Begins v o H) (hv : H s.heap)
    (fin : IsEnum (enCells s.heap o) (s.heap.objs.size + 1) s.heap.objs.size 0 .none → (enCells s.heap o).get? s.heap.objs.size = some o → Q (.ref (s.heap.objs.size + 1)) { s with heap := enCells s.heap o }) :
    wpAny (model prog w) A (call (.type "enumerate") [v]) Q E s := by
  have sz : (s.heap.push o).objs.size = s.heap.objs.size + 1 := Heap.size_push ..
  have e : IsEnum (enCells s.heap o) (s.heap.objs.size + 1) s.heap.objs.size 0 .none := by rw [← sz]; exact Heap.get?_push_size _ rfl
  exact callType_new F.called_enumerate (by decide) (F.typeCall_enumerate_1 v) (F.newCall_enumerate_1 v) (fun obj => F.args_object_init_2 obj v) F.entry_enumerate_new (new_enum1 B)
    ⟨hv, ⟨_, e, rfl⟩, fin e (Heap.get?_push_of_some _ (Heap.get?_push_size _ B.free))⟩
/-- the tuple at a, each item in a new pair -/
def ItE (K : PySem.W.Frag) (a : Addr) : It where
  go i H := ∃ (xs : List V) (x : V), SqT K H a xs ∧ xs[i]? = some x
  yld i H v H' := ∃ T x, v = .ref T ∧ H T = none ∧ H' = upd H T (.tup [.int (i : Nat), x]) ∧ ∀ xs, SqT K H a xs → xs[i]? = some x
  stop i H := ∃ xs : List V, SqT K H a xs ∧ xs.length = i
theorem turn_enumT {P : Program} {w : World} {K : PySem.W.Frag} {es : List Expr} {k : Nat} {tp : Pos} (a e it : Addr) (hai : a ≠ it) (hae : a ≠ e) (hei : e ≠ it) :
    Turn P w K (.Tuple es k tp) (ItE K a) [e, it] e (fun i h => (∃ old, IsEnum h e it ((0 : Int) + (i : Nat)) old) ∧ RowAt false h it a i) where
  mem := .head _
  obj i h st b hb := by
    obtain ⟨⟨old, he⟩, hi⟩ := st
    have two : b = e ∨ b = it := by simpa using hb
    rcases two with rfl | rfl
    · exact ⟨_, he, nofun⟩
    · exact row_cell hi
  keep i h h' st k := ⟨st.1.imp fun old he => k e (.head _) _ he, row_keep (fun o q => k it (.tail _ (.head _)) o q) st.2⟩
  item X hP hw hK hc i pins s σ H E iv ok st hg := by
    cases hP; cases hw; cases hK
    obtain ⟨xs, x, q, hx⟩ := hg
    obtain ⟨us, rv, p, _⟩ := row_read (k := false) iv q
    have lt : i < us.toArray.size := by
      have := (List.getElem?_eq_some_iff.mp hx).1
      have := rv.length
      simp only [List.size_toArray]; omega
    refine pair_turn (x := .int (i : Nat)) (y := x) (E := E) (WalksT.enumFrom 0 (row_draws (A := X.A.in1) (iv.ok.hd hc) hai us.toArray false) e hei (by simp [hei, hae.symm]) (.head _)) iv ok lt ⟨st.1, st.2, p⟩
        (fun vals ⟨t, v, hv, ev⟩ => ⟨_, v, ev, ⟨t, by rw [Int.zero_add]⟩, draw_rel rv hx hv⟩)
        fun T s2 n far iv2 st2 => ⟨.ref T, _, iv2, (show Value.ref T = Value.ref T from rfl), ⟨T, x, rfl, n, rfl, fun ys hy => by rw [iv.tuple_inj hy q]; exact hx⟩, ⟨st2.1, st2.2.1⟩, fun b hb => ?_⟩
    have ne : b ≠ T := fun z => far.1 (by rw [← z]; exact hb)
    rw [upd_ne ne]
    exact (ok b hb).1
  done X hP hw hK hc i pins s σ H E iv ok st hg := by
    cases hP; cases hw; cases hK
    obtain ⟨xs, q, rfl⟩ := hg
    obtain ⟨us, rv, p, _⟩ := row_read (k := false) iv q
    have sz : xs.length = us.toArray.size := by rw [List.size_toArray]; exact rv.length
    exact pair_done (WalksT.enumFrom 0 (row_draws (A := X.A.in1) (iv.ok.hd hc) hai us.toArray false) e hei (by simp [hei, hae.symm]) (.head _)) iv ok (by rw [← sz]; exact ⟨st.1, st.2, p⟩)
  self A i s Q E st h := let ⟨⟨_, he⟩, _⟩ := st; wpAny_pyIter_enum he h
def iEnumT (K : PySem.W.Frag) (ta : TA) : TI := fun σ H R => ta σ H fun vs H1 => ∃ a xs, vs = [.ref a] ∧ SqT K H1 a xs ∧ R (ItE K a) H1
theorem pi_enumT {X : Cx} {e : Expr} {ta : TA} {p pos tpos : Pos} {elts : List Expr} {kk : Nat} (hg : Gl X "enumerate") (hm : X.mg "enumerate" = none) (ha : PA X [e] ta) (hs : starEach [e] X.env = [(false, eval e X.env)] := by rfl) :
    PI X (.Tuple elts kk tpos) (.Call (.Name "enumerate" p) [e] [] pos) (iEnumT X.K ta) where
  run pins s σ H R I h := by
    refine Call_ (ld_blt I hg hm boot_enumerate (PyProof.Rows.callWith_type1 (thn (ha.run pos pins s σ H _ I h) fun us s1 ⟨vs, H1, I1, r1, a, xs, ev, q, hR⟩ => ?_) hs rfl))
    subst ev
    obtain ⟨u, rfl, ru⟩ := vals1 r1
    cases (show u = Value.ref a from ru)
    obtain ⟨us, rv, row, lt⟩ := row_read (k := false) I1 q
    refine enum1 (row_begins false a us.toArray) row fun he hi => wpAny_pyIter_enum he ?_
    have young : ∀ b ∈ [s1.heap.objs.size + 1, s1.heap.objs.size], FpOk X pins H1 b := fun b hb => by
      have le : s1.heap.objs.size ≤ b := by
        have : b = s1.heap.objs.size + 1 ∨ b = s1.heap.objs.size := by simpa using hb
        omega
      exact I1.fpOk le (I1.hok.fresh le)
    exact ⟨_, _, _, _, H1, rfl, I1.kept (t' := s1.toks) fun b o x => Heap.get?_push_of_some _ (Heap.get?_push_of_some _ x), turn_enumT a _ s1.heap.objs.size (Nat.ne_of_lt lt) (Nat.ne_of_lt (Nat.lt_succ_of_lt lt)) (Nat.succ_ne_self _), ⟨⟨.none, he⟩, row_at0 hi⟩, young, hR⟩
theorem walk_enumT {K : PySem.W.Frag} {a : Addr} {xs : List V} : Walk (ItE K a) xs.length (fun H => SqT K H a xs) (YPair (fun i => some (.int (i : Nat))) (fun i => xs[i]?)) where
  goes i _ hi q := ⟨xs, xs[i], q, List.getElem?_eq_getElem hi⟩
  stops _ q := ⟨xs, q, rfl⟩
  yields i H v H' _ q y := let ⟨T, x, h1, h2, h3, h4⟩ := y; ⟨T, .int (i : Nat), x, h1, h2, h3, rfl, h4 xs q⟩
end Lh
set_option Elab.async false
set_option linter.all false
set_option maxRecDepth 100000
set_option maxHeartbeats 4000000
/-! Targets, what loops walk, loops, comprehensions. -/
namespace Lh.P
open PySem PySem.Spec PyProof.Rows L2 SX

/-! ### targets: names, tuples of names -/
abbrev Ups := List (Nat × PV × V)
def putP (u : Ups) (Γ : Env) : Env := u.foldl (fun Γ q => Γ.set q.1 (some q.2.1)) Γ
def putV (u : Ups) (σ : L2.St) : L2.St := u.foldl (fun σ q => σ.set q.1 (some q.2.2)) σ
/-- the target takes a value as g says, into slots of T -/
def GT (K : PySem.W.Frag) (T : List Nat) (t : TG) (g : PV → Env → Option Env) : Prop := ∀ p v Γ σ H0 H (Q : L2.St → Hp → Prop) Γ', Rep K H0 p v → Same H0 H → g p Γ = some Γ' →
  (∀ u : Ups, (∀ q ∈ u, q.1 ∈ T ∧ Rep K H0 q.2.1 q.2.2) → Γ' = putP u Γ → Q (putV u σ) H) → t v σ H Q
def GTs (K : PySem.W.Frag) (T : List Nat) (t : TGs) (g : List PV → Env → Option Env) : Prop := ∀ ps vs Γ σ H0 H (Q : L2.St → Hp → Prop) Γ', Reps K H0 ps vs → Same H0 H → g ps Γ = some Γ' →
  (∀ u : Ups, (∀ q ∈ u, q.1 ∈ T ∧ Rep K H0 q.2.1 q.2.2) → Γ' = putP u Γ → Q (putV u σ) H) → t vs σ H Q
def gN (i : Nat) : PV → Env → Option Env := fun p Γ => some (Γ.set i (some p))
def gNilP : List PV → Env → Option Env
  | [], Γ => some Γ
  | _ :: _, _ => none
def gConsP (g : PV → Env → Option Env) (h : List PV → Env → Option Env) : List PV → Env → Option Env
  | p :: ps, Γ => (g p Γ).bind (h ps)
  | [], _ => none
def gTupP (n : Nat) (h : List PV → Env → Option Env) : PV → Env → Option Env
  | .tup ps, Γ => if ps.length = n then h ps Γ else none
  | .lst ps, Γ => if ps.length = n then h ps Γ else none
  | _, _ => none
section
variable {K : PySem.W.Frag} {T : List Nat}
theorem gt_name {i : Nat} (hi : i ∈ T := by decide) : GT K T (gName i) (gN i) := fun p v Γ σ H0 H Q Γ' r sm e k => k [(i, p, v)] (fun q hq => by rw [List.mem_singleton.mp hq]; exact ⟨hi, r⟩) (by cases e; rfl)
theorem gts_nil : GTs K T gNil gNilP := fun ps vs Γ σ H0 H Q Γ' r sm e k => by
  cases ps with
  | cons _ _ => cases e
  | nil =>
    cases vs with
    | cons _ _ => exact False.elim r
    | nil => exact ⟨rfl, k [] (fun q hq => by cases hq) (by cases e; rfl)⟩
theorem gts_cons {t : TG} {u : TGs} {g : PV → Env → Option Env} {h : List PV → Env → Option Env} (h1 : GT K T t g) (h2 : GTs K T u h) : GTs K T (gCons t u) (gConsP g h) := fun ps vs Γ σ H0 H Q Γ' r sm e k => by
  cases ps with
  | nil => cases e
  | cons p ps =>
    cases vs with
    | nil => exact False.elim r
    | cons v vs =>
      have e : (g p Γ).bind (h ps) = some Γ' := e
      cases hg : g p Γ with
      | none => rw [hg] at e; cases e
      | some Γ1 =>
        rw [hg] at e
        refine ⟨v, vs, rfl, h1 p v Γ σ H0 H _ Γ1 r.1 sm hg fun u1 k1 e1 => h2 ps vs Γ1 (putV u1 σ) H0 H _ Γ' r.2 sm e fun u2 k2 e2 => ?_⟩
        have := k (u1 ++ u2) (fun q hq => (List.mem_append.mp hq).elim (k1 q) (k2 q)) (by rw [e2, e1]; exact (List.foldl_append ..).symm)
        rw [show putV (u1 ++ u2) σ = putV u2 (putV u1 σ) from List.foldl_append ..] at this
        exact this
theorem gt_tup {n : Nat} {t : TGs} {h : List PV → Env → Option Env} (hh : GTs K T t h) : GT K T (Lh.P.gOr (gLst K n t) (gTup K n t)) (gTupP n h) := fun p v Γ σ H0 H Q Γ' r sm e k => by
  cases p with
  | tup ps =>
    obtain ⟨a, vs, rfl, ha, rs⟩ := r
    have e : (if ps.length = n then h ps Γ else none) = some Γ' := e
    split at e
    · rename_i hn
      exact .inr ⟨a, vs, rfl, SqT.of (sm _ _ ha), by rw [rs.len]; exact hn, hh ps vs Γ σ H0 H Q Γ' rs sm e k⟩
    · cases e
  | lst ps =>
    obtain ⟨a, vs, rfl, ha, rs⟩ := r
    have e : (if ps.length = n then h ps Γ else none) = some Γ' := e
    split at e
    · rename_i hn
      exact .inl ⟨a, vs, rfl, SqL.of (sm _ _ ha), by rw [rs.len]; exact hn, hh ps vs Γ σ H0 H Q Γ' rs sm e k⟩
    · cases e
  | _ => cases e
end
theorem EnvOk.puts {K : PySem.W.Frag} {Z : Zn} {O : List Nat} {H0 H : Hp} : ∀ {u : Ups} {Γ : Env} {σ : L2.St}, EnvOk K Z O H0 H Γ σ → (∀ q ∈ u, q.1 ∉ O ∧ Rep K H0 q.2.1 q.2.2) → EnvOk K Z O H0 H (putP u Γ) (putV u σ)
  | [], _, _, E, _ => E
  | q :: u, Γ, σ, E, h => EnvOk.puts (u := u) (E.put (h q List.mem_cons_self).1 (h q List.mem_cons_self).2) fun q' hq' => h q' (List.mem_cons_of_mem _ hq')
theorem Shr.put {K : PySem.W.Frag} {V : List Nat} {H0 : Hp} {Γ : Env} {σ : L2.St} (h : Shr K V H0 Γ σ) {i : Nat} {p : PV} {v : L2.V} (r : Rep K H0 p v) : Shr K V H0 (Γ.set i (some p)) (σ.set i (some v)) := by
  refine ⟨by rw [List.length_set, List.length_set]; exact h.1, fun j hj q hq => ?_⟩
  rcases getE_set hq with ⟨rfl, e⟩ | ⟨hne, hq⟩
  · cases e
    refine ⟨v, ?_, r⟩
    have hl : j < σ.length := by
      rw [h.1]
      have := (List.getElem?_eq_some_iff.mp hq).1
      rw [List.length_set] at this
      exact this
    rw [List.getElem?_set_self hl]
  · obtain ⟨w, k1, k2⟩ := h.2 j hj q hq
    exact ⟨w, by rw [List.getElem?_set_ne fun z => hne z.symm]; exact k1, k2⟩
theorem Shr.puts {K : PySem.W.Frag} {V : List Nat} {H0 : Hp} : ∀ {u : Ups} {Γ : Env} {σ : L2.St}, Shr K V H0 Γ σ → (∀ q ∈ u, Rep K H0 q.2.1 q.2.2) → Shr K V H0 (putP u Γ) (putV u σ)
  | [], _, _, h, _ => h
  | q :: u, Γ, σ, h, k => Shr.puts (u := u) (h.put (k q List.mem_cons_self)) fun q' hq' => k q' (List.mem_cons_of_mem _ hq')
/-! ### what is walked -/
structure Wk (K : PySem.W.Frag) (H0 : Hp) (J : It) (ps : List PV) : Prop where
  go : ∀ i H, i < ps.length → Same H0 H → J.go i H
  stop : ∀ H, Same H0 H → J.stop ps.length H
  yld : ∀ i H x H', i < ps.length → Same H0 H → J.yld i H x H' → ∀ H1, Same H0 H1 → Same H1 H → ∃ H1', Gr H1 H H1' H' ∧ ∀ p, ps[i]? = some p → Rep K H1' p x
/-- the iterable comes to these items -/
def IX (X : Cx) (W : WX) (V : List Nat) (tg iter : Expr) (f : Env → Rs (List PV)) : Prop := ∃ wi, PI X tg iter wi ∧ ∀ Γ σ H0 H R, Shr X.K V H0 Γ σ → Same H0 H → Post X.K W σ (fun ps H0' H' => ∀ J, Wk X.K H0' J ps → R J H') H0 H (f Γ) → wi σ H R
section
variable {X : Cx} {W : WX} {V : List Nat} {e a b tg : Expr} {es : List Expr} {pos : Pos} {K : PySem.W.Frag} {H0 : Hp}
theorem wk_list {t : Addr} {ps : List PV} {vs : List L2.V} (h : H0 t = some (.lst vs)) (rs : Reps K H0 ps vs) : Wk K H0 (Itl K t) ps where
  go := fun i H hi s => ⟨vs, vs[i]'(by rw [rs.len]; exact hi), SqL.of (s _ _ h), List.getElem?_eq_getElem _⟩
  stop := fun H s => ⟨vs, SqL.of (s _ _ h), Nat.le_of_eq rs.len⟩
  yld := fun i H x H' hi s ⟨e, y⟩ H1 s1 s2 => by
    subst e
    refine ⟨H1, Gr.refl s2, fun p hp => ?_⟩
    obtain ⟨v, h1, h2⟩ := rs.get hp
    rw [y vs (SqL.of (s _ _ h))] at h1
    cases h1
    exact Rep.mono s1 _ _ h2
theorem Rd.same {H H' : Hp} {a : Addr} {u : HO} (h : Rd H a u) (s : Same H H') : Rd H' a u := h.imp (fun h => s _ _ h) fun ⟨o, h⟩ => ⟨o, s _ _ h⟩
theorem wk_tup {t : Addr} {ps : List PV} {vs : List L2.V} (h : Rd H0 t (.tup vs)) (rs : Reps K H0 ps vs) : Wk K H0 (Itt K t) ps where
  go := fun i H hi s => ⟨vs, vs[i]'(by rw [rs.len]; exact hi), .inl (Rd.same h s), List.getElem?_eq_getElem _⟩
  stop := fun H s => ⟨vs, .inl (Rd.same h s), Nat.le_of_eq rs.len⟩
  yld := fun i H x H' hi s ⟨e, y⟩ H1 s1 s2 => by
    subst e
    refine ⟨H1, Gr.refl s2, fun p hp => ?_⟩
    obtain ⟨v, h1, h2⟩ := rs.get hp
    rw [y vs (.inl (Rd.same h s))] at h1
    cases h1
    exact Rep.mono s1 _ _ h2
def rgP (lo : Int) (n : Nat) : List PV := (List.range n).map fun i : Nat => .int (lo + (i : Int))
theorem rgP_len (lo : Int) (n : Nat) : (rgP lo n).length = n := by unfold rgP; rw [List.length_map, List.length_range]
theorem rgP_get {lo : Int} {n i : Nat} {p : PV} (h : (rgP lo n)[i]? = some p) : p = .int (lo + (i : Int)) := by
  unfold rgP at h
  rw [List.getElem?_map] at h
  obtain ⟨j, hj, rfl⟩ := Option.map_eq_some_iff.mp h
  have hi := (List.getElem?_eq_some_iff.mp hj).1
  rw [List.length_range] at hi
  rw [List.getElem?_range hi] at hj
  cases hj
  rfl
theorem wk_range {lo : Int} {n : Nat} : Wk K H0 (Itr lo n) (rgP lo n) where
  go := fun i H hi s => by rw [rgP_len] at hi; exact hi
  stop := fun H s => by rw [rgP_len]; exact Nat.le_refl n
  yld := fun i H x H' hi s ⟨e, y⟩ H1 s1 s2 => by
    subst e y
    exact ⟨H1, Gr.refl s2, fun p hp => by rw [rgP_get hp]; rfl⟩
theorem wk_str {s : List Nat} : Wk K H0 (Its (S s)) (s.map fun c => .str [c]) where
  go := fun i H hi _ => by rw [List.length_map] at hi; show i < (S s).cps.size; rw [show (S s).cps.size = s.length from S_len s]; exact hi
  stop := fun H _ => by rw [List.length_map]; exact Nat.le_of_eq (S_len s)
  yld := fun i H x H' hi _ ⟨e, c, hc, y⟩ H1 s1 s2 => by
    subst e y
    refine ⟨H1, Gr.refl s2, fun p hp => ?_⟩
    rw [List.getElem?_map] at hp
    obtain ⟨c', hc', rfl⟩ := Option.map_eq_some_iff.mp hp
    have e2 : (S s).cps[i]? = s[i]? := by
      rw [← Array.getElem?_toList, codes]
    rw [e2, hc'] at hc
    cases hc
    rfl
def pItems : PV → Rs (List PV)
  | .lst ps => .ok ps
  | .tup ps => .ok ps
  | .tun ps => .ok ps
  | .str s => .ok (s.map fun c => .str [c])
  | _ => .bad
theorem ix_any {f : Env → Rs PV} (h : EX X W V e f) : IX X W V tg e (fun Γ => (f Γ).bind pItems) := ⟨_, Lh.P.pi_or (pi_list pe_of) (Lh.P.pi_or (pi_tup pe_of) (pi_str pe_of)), fun Γ σ H0 H R sh sm q => by
  -- by what the value is
  have q : Post X.K W σ (fun ps H0' H' => ∀ J, Wk X.K H0' J ps → R J H') H0 H ((f Γ).bind pItems) := q
  cases hf : f Γ with
  | bad => rw [hf] at q; exact False.elim q
  | ex C fs =>
    refine .inl (h Γ σ H0 H _ sh sm ?_)
    rw [hf] at q ⊢
    exact q
  | ok p =>
    rw [hf] at q
    cases p with
    | lst ps =>
      refine .inl (h Γ σ H0 H _ sh sm ?_)
      rw [hf]
      intro H0' H' g v r
      obtain ⟨a, vs, rfl, ha, rs⟩ := r
      exact ⟨a, rfl, ⟨vs, SqL.of (g.c _ _ ha)⟩, q H0' H' g _ (wk_list ha rs)⟩
    | tup ps =>
      refine .inr (.inl (h Γ σ H0 H _ sh sm ?_))
      rw [hf]
      intro H0' H' g v r
      obtain ⟨a, vs, rfl, ha, rs⟩ := r
      exact ⟨a, rfl, ⟨vs, SqT.of (g.c _ _ ha)⟩, q H0' H' g _ (wk_tup (.inl ha) rs)⟩
    | tun ps =>
      refine .inr (.inl (h Γ σ H0 H _ sh sm ?_))
      rw [hf]
      intro H0' H' g v r
      obtain ⟨a, vs, rfl, ⟨o, ha, _⟩, rs⟩ := r
      have ha : Rd H0' a (.tup vs) := .inr ⟨o, ha⟩
      exact ⟨a, rfl, ⟨vs, .inl (Rd.same ha g.c)⟩, q H0' H' g _ (wk_tup ha rs)⟩
    | str s =>
      refine .inr (.inr (h Γ σ H0 H _ sh sm ?_))
      rw [hf]
      intro H0' H' g v r
      exact ⟨S s, r, q H0' H' g _ wk_str⟩
    | _ => exact False.elim q⟩
def pRg1 : List PV → Rs (List PV)
  | [.int n] => if -1000000000 ≤ n ∧ n ≤ 1000000000 then .ok (rgP 0 n.toNat) else .bad
  | _ => .bad
def pRg2 : List PV → Rs (List PV)
  | [.int l, .int n] => if (-1000000000 ≤ l ∧ l ≤ 1000000000) ∧ -1000000000 ≤ n ∧ n ≤ 1000000000 then .ok (rgP l (n - l).toNat) else .bad
  | _ => .bad
theorem ix_rg1 {f : Env → Rs (List PV)} {p : Pos} (ha : AX X W V [a] f) (hm : X.mg "range" = none) (hg : Gl X "range" := by rfl) (hs : starEach [a] X.env = [(false, eval a X.env)] := by rfl) : IX X W V tg (.Call (.Name "range" p) [a] [] pos) (fun Γ => (f Γ).bind pRg1) :=
  ⟨_, pi_range1 hg hm pa_of hs, fun Γ σ H0 H R sh sm q => ha Γ σ H0 H _ sh sm (q.step.mono fun ps H1 H2 g q1 vs rs => by
    match ps, q1 with
    | [.int n], q1 =>
      obtain ⟨v, rfl, r⟩ := reps1 rs
      obtain ⟨hn, q1⟩ := post_if q1
      exact ⟨n, by rw [show v = .int n from r], by omega, by omega, q1 _ _ (Gr.refl g.c) _ wk_range⟩)⟩
theorem ix_rg2 {f : Env → Rs (List PV)} {p : Pos} (ha : AX X W V [a, b] f) (hm : X.mg "range" = none) (hg : Gl X "range" := by rfl) (hs : starEach [a, b] X.env = [(false, eval a X.env), (false, eval b X.env)] := by rfl) (hs2 : starEach [b] X.env = [(false, eval b X.env)] := by rfl) : IX X W V tg (.Call (.Name "range" p) [a, b] [] pos) (fun Γ => (f Γ).bind pRg2) :=
  ⟨_, pi_range2 hg hm pa_of hs hs2, fun Γ σ H0 H R sh sm q => ha Γ σ H0 H _ sh sm (q.step.mono fun ps H1 H2 g q1 vs rs => by
    match ps, q1 with
    | [.int l, .int n], q1 =>
      obtain ⟨v, w, rfl, r, r2⟩ := reps2 rs
      obtain ⟨hn, q1⟩ := post_if q1
      exact ⟨l, n, by rw [show v = .int l from r, show w = .int n from r2], by omega, q1 _ _ (Gr.refl g.c) _ wk_range⟩)⟩
end
/-! ### for -/
def forL (g : PV → Env → Option Env) (fb : Env → Out) : List PV → Env → Out
  | [], Γ => .next Γ
  | x :: xs, Γ => match g x Γ with
    | none => .bad
    | some Γ1 => match fb Γ1 with
      | .next Γ2 => forL g fb xs Γ2
      | .cont Γ2 => forL g fb xs Γ2
      | .brk Γ2 => .next Γ2
      | o => o
def dFor (fi : Env → Rs (List PV)) (g : PV → Env → Option Env) (fb : Env → Out) : Env → Out := fun Γ => outE (fi Γ) Γ fun ps => forL g fb ps Γ
theorem EnvOk.base {K : PySem.W.Frag} {Z : Zn} {O O2 : List Nat} {H0 H H0' H' : Hp} {Γ Γ' : Env} {σ σ' : L2.St} (E : EnvOk K Z O H0 H Γ σ) (E' : EnvOk K { Z with H00 := H0 } O2 H0' H' Γ' σ') : EnvOk K Z O2 H0' H' Γ' σ' :=
  ⟨E'.len, E.a.trans E'.a, E'.b, E'.c, fun a h => (E'.d a h).elim (fun h => E.d a h) .inr, E'.vals, E'.own⟩
theorem EnvOk.based {K : PySem.W.Frag} {Z : Zn} {O : List Nat} {H0 H : Hp} {Γ : Env} {σ : L2.St} (E : EnvOk K Z O H0 H Γ σ) : EnvOk K { Z with H00 := H0 } O H0 H Γ σ :=
  ⟨E.len, fun _ _ h => h, E.b, E.c, fun a h => .inl h, E.vals, E.own⟩
section
variable {X : Cx} {W : WX} {M : Md} {V O O1 T : List Nat} {tg iter c : Expr} {body : List Stmt} {pos : Pos}
/-- a turn's end is that of the loop, but for the next turn -/
theorem turn_end {Z : Zn} {D : Ends} {N : L2.St → Hp → Prop} {Γ0 : Env} {σ0 : L2.St} {H0 H : Hp} {O2 : List Nat} (E : EnvOk X.K Z O2 H0 H Γ0 σ0) {o : Out} (hn : ∀ Γ, o = .next Γ ∨ o = .cont Γ → ∀ σ H0' H', EnvOk X.K { Z with H00 := H0 } O1 H0' H' Γ σ → N σ H')
    (hb : ∀ Γ, o = .brk Γ → PostS X.K W Z M O1 D (.next Γ)) (ho : (∀ Γ, o ≠ .next Γ) → (∀ Γ, o ≠ .cont Γ) → (∀ Γ, o ≠ .brk Γ) → PostS X.K W Z M O1 D o) : PostS X.K W { Z with H00 := H0 } { M with OL := O1 } O1 { D with nx := N, ct := N, bk := D.nx } o := by
  cases o with
  | next Γ => exact fun σ H0' H' E' => hn Γ (.inl rfl) σ H0' H' E'
  | cont Γ => exact fun σ H0' H' E' => hn Γ (.inr rfl) σ H0' H' E'
  | brk Γ => exact fun σ H0' H' E' => hb Γ rfl σ H0' H' (E.base E')
  | ret p Γ =>
    have h := ho (fun _ z => by cases z) (fun _ z => by cases z) (fun _ z => by cases z)
    have h : if M.R then RetO X.K Z M.IO Γ p D.rt else ∀ v σ H0 H, EnvOk X.K Z M.IO H0 H Γ σ → Rep X.K H0 p v → D.rt v H := h
    show if M.R then RetO X.K { Z with H00 := H0 } M.IO Γ p D.rt else ∀ v σ H0' H', EnvOk X.K { Z with H00 := H0 } M.IO H0' H' Γ σ → Rep X.K H0' p v → D.rt v H'
    split
    · rename_i hR
      rw [if_pos hR] at h
      exact ⟨fun s v σ H0' H' E' => h.1 s v σ H0' H' (E.base E'), fun a σ H0' H' E' => h.2 a σ H0' H' (E.base E')⟩
    · rename_i hR
      rw [if_neg hR] at h
      exact fun v σ H0' H' E' => h v σ H0' H' (E.base E')
  | exc C fs Γ =>
    have h := ho (fun _ z => by cases z) (fun _ z => by cases z) (fun _ z => by cases z)
    exact fun d σ H0' H' E' => h d σ H0' H' (E.base E')
  | bad => exact ho (fun _ z => by cases z) (fun _ z => by cases z) (fun _ z => by cases z)
theorem s_for {fi : Env → Rs (List PV)} {t : TG} {g : PV → Env → Option Env} {fb : Env → Out} (hp : PassesOwn (model X.prog X.w) X.A X.env X.xe) (hc : X.calm = true) (hi : IX X W V tg iter fi) (hg : PG X tg t) (gt : GT X.K T t g) (hb : BX X W { M with OL := O1 } O1 O1 body fb)
    (hO : ∀ j ∈ O1, j ∈ O ∧ j ∉ V ∧ j ∉ T) (hI : ∀ j ∈ M.IO, j ∈ O1) (ok : OkO M O) (hs : ∀ x, foldedSetIterable iter X.env x = pure x := by intro _; rfl) : SX X W M O O1 (.For tg iter body [] pos) (dFor fi g fb) := fun Z Γ σ H0 H D io E p => by
  obtain ⟨wi, pi, hwi⟩ := hi
  refine PS.to (ps_for hp hc pi hg pss_of hs) ?_
  refine lend_post (V := V) (R := fun _ H => tFor wi t (tssOf X body) D σ H) io ok E p (fun j => j ∉ O1) (fun j hj _ z => (hO j z).2.1 hj) (fun H0p sh sm q => hwi Γ σ H0p H _ sh sm q) fun ps Hb H1 _ pn L J wk => ?_
  have E2 := L.2.1 O1 (fun j => ⟨fun z => ⟨(hO j z).1, fun y => y z⟩, fun z => Classical.byContradiction z.2⟩) fun q hq => hI _ (io q hq)
  -- the turns
  refine ⟨fun i m σ H => m = ps.length - i ∧ i ≤ ps.length ∧ ∃ Γ H0, EnvOk X.K { Z with H00 := Hb } O1 H0 H Γ σ ∧ PostS X.K W Z M O1 D (forL g fb (ps.drop i) Γ), ⟨ps.length, by simp, Nat.zero_le _, Γ, Hb, E2.based, pn⟩, ?_⟩
  rintro i m σ3 H3 ⟨rfl, hi, Γ3, H03, E3, p3⟩
  by_cases hlt : i < ps.length
  · obtain ⟨x, hx⟩ : ∃ x, ps[i]? = some x := ⟨ps[i], List.getElem?_eq_getElem hlt⟩
    have hd : ps.drop i = x :: ps.drop (i + 1) := by
      rw [List.drop_eq_getElem_cons hlt]
      congr 1
      rw [List.getElem?_eq_getElem hlt] at hx
      exact Option.some.inj hx
    rw [hd] at p3
    refine .inr ⟨wk.go i H3 hlt (E3.a.trans E3.c), fun σ' H' => ∃ Γ' H0', EnvOk X.K { Z with H00 := Hb } O1 H0' H' Γ' σ' ∧ PostS X.K W Z M O1 D (forL g fb (ps.drop (i + 1)) Γ'), fun σ' H' ⟨Γ', H0', a, b⟩ => ⟨ps.length - (i + 1), by omega, rfl, hlt, Γ', H0', a, b⟩, fun v H4 y => ?_⟩
    obtain ⟨H04, g4, r4⟩ := wk.yld i H3 v H4 hlt (E3.a.trans E3.c) y H03 E3.a E3.c
    have E4 := E3.grow g4
    cases hg : g x Γ3 with
    | none => exact False.elim (by unfold forL at p3; rw [hg] at p3; exact p3)
    | some Γ5 =>
      refine gt x v Γ3 σ3 H04 H4 _ Γ5 (r4 x hx) g4.c hg fun u hu e5 => ?_
      have E5 : EnvOk X.K { Z with H00 := Hb } O1 H04 H4 Γ5 (putV u σ3) := by
        rw [e5]
        exact E4.puts fun q hq => ⟨fun z => (hO _ z).2.2 (hu q hq).1, (hu q hq).2⟩
      unfold forL at p3
      rw [hg] at p3
      dsimp only at p3
      refine hb { Z with H00 := Hb } Γ5 _ H04 H4 _ io E5 (turn_end (M := M) (D := D) E2 (fun Γ6 h6 σ6 H06 H6 E6 => ⟨Γ6, H06, E6, ?_⟩) (fun Γ6 h6 => ?_) fun n1 n2 n3 => ?_)
      · rcases h6 with h6 | h6 <;> (rw [h6] at p3; exact p3)
      · rw [h6] at p3; exact p3
      · cases hf : fb Γ5 with
        | next Γ6 => exact absurd hf (n1 Γ6)
        | cont Γ6 => exact absurd hf (n2 Γ6)
        | brk Γ6 => exact absurd hf (n3 Γ6)
        | _ => rw [hf] at p3; exact p3
  · have e : i = ps.length := by omega
    subst e
    rw [List.drop_length] at p3
    exact .inl ⟨wk.stop H3 (E3.a.trans E3.c), p3 _ _ _ (E2.base E3)⟩
/-! ### while -/
def whileL (c : Env → Rs Bool) (fb : Env → Out) : Nat → Env → Out
  | 0, _ => .bad
  | n + 1, Γ => outE (c Γ) Γ fun b => if b = true then (match fb Γ with
      | .next Γ2 => whileL c fb n Γ2
      | .cont Γ2 => whileL c fb n Γ2
      | .brk Γ2 => .next Γ2
      | o => o) else .next Γ
theorem s_while (n : Nat) {t : Env → Rs Bool} {fb : Env → Out} (hp : PassesOwn (model X.prog X.w) X.A X.env X.xe) (hc : TX X W V c t) (hb : BX X W { M with OL := O1 } O1 O1 body fb) (hO : ∀ j ∈ O1, j ∈ O) (hI : ∀ j ∈ M.IO, j ∈ O1) (ok : OkO M O1) : SX X W M O O1 (.While c body [] pos) (whileL t fb n) := fun Z Γ σ H0 H D io E p => by
  obtain ⟨Hb, _, _, E2⟩ := E.freeze hO fun q hq => hI _ (io q hq)
  refine PS.to (ps_while hp pt_of pss_of) ?_
  refine ⟨fun m σ H => ∃ Γ H0, EnvOk X.K Z O1 H0 H Γ σ ∧ PostS X.K W Z M O1 D (whileL t fb m Γ), ⟨n, Γ, Hb, E2, p⟩, ?_⟩
  rintro m σ3 H3 ⟨Γ3, H03, E3, p3⟩
  cases m with
  | zero => exact False.elim p3
  | succ m =>
    unfold whileL at p3
    refine lend_post (V := V) (R := fun _ H => ttOf X c σ3 H fun b H1 => if b = true then ∃ N : L2.St → Hp → Prop, (∀ σ' H', N σ' H' → ∃ m', m' < m + 1 ∧ ∃ Γ H0, EnvOk X.K Z O1 H0 H' Γ σ' ∧ PostS X.K W Z M O1 D (whileL t fb m' Γ)) ∧ tssOf X body { D with nx := N, ct := N, bk := D.nx } σ3 H1 else D.nx σ3 H1) io ok E3 p3 (fun j => j ∈ V) (fun j hj _ => hj) (fun H0p sh sm q => hc Γ3 σ3 H0p H3 _ sh sm q) fun k H0' H' _ pn L => ?_
    obtain ⟨_, _, H0'', E4, _⟩ := L
    show if k = true then _ else D.nx σ3 H'
    cases k with
    | false => exact pn _ _ _ E4
    | true =>
      rw [if_pos rfl] at pn ⊢
      refine ⟨fun σ' H' => ∃ Γ' H0', EnvOk X.K Z O1 H0' H' Γ' σ' ∧ PostS X.K W Z M O1 D (whileL t fb m Γ'), fun σ' H' ⟨Γ', H0', a, b⟩ => ⟨m, Nat.lt_succ_self m, Γ', H0', a, b⟩, ?_⟩
      refine hb { Z with H00 := H0'' } Γ3 _ H0'' H' _ io E4.based (turn_end (M := M) (D := D) E4 (fun Γ6 h6 σ6 H06 H6 E6 => ⟨Γ6, H06, E4.base E6, ?_⟩) (fun Γ6 h6 => ?_) fun n1 n2 n3 => ?_)
      · rcases h6 with h6 | h6 <;> (rw [h6] at pn; exact pn)
      · rw [h6] at pn; exact pn
      · cases hf : fb Γ3 with
        | next Γ6 => exact absurd hf (n1 Γ6)
        | cont Γ6 => exact absurd hf (n2 Γ6)
        | brk Γ6 => exact absurd hf (n3 Γ6)
        | _ => rw [hf] at pn; exact pn
end
end Lh.P
set_option Elab.async false
set_option linter.all false
set_option maxRecDepth 100000
set_option maxHeartbeats 4000000
/-! [.. for .. for ..] over anything that is walked. -/
namespace Lh
open PySem PySem.Spec PyProof.Rows L2
theorem lc2_out {J : It} {n : Nat} {G : Hp → Prop} {Y : Nat → Hp → V → Hp → Prop} (w : Walk J n G Y) {wi1 : TI} {g g1 : TG} {tt tt1 : TT} {te : TE} {vs vs1 : List Nat} {σ : L2.St} {H1 : Hp} {D : Addr} {Qd : Hp → Prop} (Pv : Nat → Hp → Prop) (h0 : Pv 0 (upd H1 D (.lst []))) (hG : ∀ i H, i ≤ n → Pv i H → G H)
    (hs : ∀ i x H H', i < n → Pv i H → Y i H x H' → g x (wipe σ vs) H' fun σ2 H2 => wipe σ2 vs = wipe σ vs ∧ tt σ2 H2 fun b H3 =>
      if b = true then wi1 σ2 H3 fun J1 H4 => ∃ W1 : Nat → Nat → Hp → Prop, (∃ m, W1 0 m H4) ∧ ∀ j k H, W1 j k H →
        (J1.stop j H ∧ Pv (i + 1) H) ∨ (J1.go j H ∧ ∃ Nx1 : Hp → Prop, (∀ H', Nx1 H' → ∃ k', k' < k ∧ W1 (j + 1) k' H') ∧ ∀ x H', J1.yld j H x H' → g1 x (wipe σ2 vs1) H' fun σ3 H5 => wipe σ3 vs1 = wipe σ2 vs1 ∧ tt1 σ3 H5 fun b H6 =>
          if b = true then te σ3 H6 fun y H7 => ∃ acc, H7 D = some (.lst acc) ∧ acc.length < sizeLine ∧ Nx1 (upd H7 D (.lst (acc ++ [y]))) else Nx1 H6)
      else Pv (i + 1) H3) (hd : ∀ H, Pv n H → Qd H) :
    ∃ W : Nat → Nat → Hp → Prop, (∃ m, W 0 m (upd H1 D (.lst []))) ∧ ∀ i m H, W i m H →
  (J.stop i H ∧ Qd H) ∨ (J.go i H ∧ ∃ Nx : Hp → Prop, (∀ H', Nx H' → ∃ m', m' < m ∧ W (i + 1) m' H') ∧ ∀ x H', J.yld i H x H' → g x (wipe σ vs) H' fun σ2 H2 => wipe σ2 vs = wipe σ vs ∧ tt σ2 H2 fun b H3 =>
    if b = true then wi1 σ2 H3 fun J1 H4 => ∃ W1 : Nat → Nat → Hp → Prop, (∃ m, W1 0 m H4) ∧ ∀ j k H, W1 j k H →
      (J1.stop j H ∧ Nx H) ∨ (J1.go j H ∧ ∃ Nx1 : Hp → Prop, (∀ H', Nx1 H' → ∃ k', k' < k ∧ W1 (j + 1) k' H') ∧ ∀ x H', J1.yld j H x H' → g1 x (wipe σ2 vs1) H' fun σ3 H5 => wipe σ3 vs1 = wipe σ2 vs1 ∧ tt1 σ3 H5 fun b H6 =>
        if b = true then te σ3 H6 fun y H7 => ∃ acc, H7 D = some (.lst acc) ∧ acc.length < sizeLine ∧ Nx1 (upd H7 D (.lst (acc ++ [y]))) else Nx1 H6)
    else Nx H3) := by
  refine ⟨fun i m H => m = n - i ∧ i ≤ n ∧ Pv i H, ⟨n, by simp, Nat.zero_le _, h0⟩, ?_⟩
  rintro i m H ⟨rfl, hi, p⟩
  by_cases hlt : i < n
  · exact .inr ⟨w.goes i H hlt (hG i H hi p), Pv (i + 1), fun H' p' => ⟨n - (i + 1), by omega, rfl, hlt, p'⟩, fun x H' y => hs i x H H' hlt p (w.yields i H x H' hlt (hG i H hi p) y)⟩
  · have e : i = n := by omega
    subst e
    exact .inl ⟨w.stops H (hG _ H hi p), hd H p⟩
theorem lc2_in {J : It} {n : Nat} {G : Hp → Prop} {Y : Nat → Hp → V → Hp → Prop} (w : Walk J n G Y) {g1 : TG} {tt1 : TT} {te : TE} {vs1 : List Nat} {σ2 : L2.St} {H4 : Hp} {D : Addr} {Nx : Hp → Prop} (Pv : Nat → Hp → Prop) (h0 : Pv 0 H4) (hG : ∀ i H, i ≤ n → Pv i H → G H)
    (hs : ∀ i x H H', i < n → Pv i H → Y i H x H' → g1 x (wipe σ2 vs1) H' fun σ3 H5 => wipe σ3 vs1 = wipe σ2 vs1 ∧ tt1 σ3 H5 fun b H6 =>
      if b = true then te σ3 H6 fun y H7 => ∃ acc, H7 D = some (.lst acc) ∧ acc.length < sizeLine ∧ Pv (i + 1) (upd H7 D (.lst (acc ++ [y]))) else Pv (i + 1) H6) (hd : ∀ H, Pv n H → Nx H) :
    ∃ W1 : Nat → Nat → Hp → Prop, (∃ m, W1 0 m H4) ∧ ∀ j k H, W1 j k H →
      (J.stop j H ∧ Nx H) ∨ (J.go j H ∧ ∃ Nx1 : Hp → Prop, (∀ H', Nx1 H' → ∃ k', k' < k ∧ W1 (j + 1) k' H') ∧ ∀ x H', J.yld j H x H' → g1 x (wipe σ2 vs1) H' fun σ3 H5 => wipe σ3 vs1 = wipe σ2 vs1 ∧ tt1 σ3 H5 fun b H6 =>
        if b = true then te σ3 H6 fun y H7 => ∃ acc, H7 D = some (.lst acc) ∧ acc.length < sizeLine ∧ Nx1 (upd H7 D (.lst (acc ++ [y]))) else Nx1 H6) := by
  refine ⟨fun i m H => m = n - i ∧ i ≤ n ∧ Pv i H, ⟨n, by simp, Nat.zero_le _, h0⟩, ?_⟩
  rintro i m H ⟨rfl, hi, p⟩
  by_cases hlt : i < n
  · exact .inr ⟨w.goes i H hlt (hG i H hi p), Pv (i + 1), fun H' p' => ⟨n - (i + 1), by omega, rfl, hlt, p'⟩, fun x H' y => hs i x H H' hlt p (w.yields i H x H' hlt (hG i H hi p) y)⟩
  · have e : i = n := by omega
    subst e
    exact .inl ⟨w.stops H (hG _ H hi p), hd H p⟩
end Lh
namespace Lh
open PySem PySem.Spec PyProof.Rows L2
section
variable {X : Cx} {K : PySem.W.Frag}
theorem ix_tupK (h : X.K = K := by rfl) : IxR X (rIxT K) := by subst h; exact ix_tup
theorem ix_listK (h : X.K = K := by rfl) : IxR X (rIxL K) := by subst h; exact ix_list
theorem op_in_seqK (h : X.K = K := by rfl) : OpR X (compareOp .In) (rIn K false) := by subst h; exact op_in_seq
theorem pe_fldK {e : Expr} {ta : TE} {f : Str} {pos : Pos} (ha : PE X e ta) (h : X.K = K := by rfl) (hb : attributeBase e f X.env (eval e X.env) = eval e X.env := by rfl) : PE X (.Attribute e f pos) (tFld K ta f) := by
  subst h
  exact pe_fld ha hb
theorem call_len_seqK (h : X.K = K := by rfl) : CallR X (.builtin "len") (fun xs H Q => ∃ p ys, xs = [V.ref p] ∧ (SqL K H p ys ∨ SqT K H p ys) ∧ Q (.int ys.length) H) := by
  subst h
  exact call_len_seq
theorem pi_tupK {tg l : Expr} {tl : TE} (hl : PE X l tl) (h : X.K = K := by rfl) : PI X tg l (iTup K tl) := by subst h; exact pi_tup hl
theorem pi_listK {tg l : Expr} {tl : TE} (hl : PE X l tl) (h : X.K = K := by rfl) : PI X tg l (iList K tl) := by subst h; exact pi_list hl
end
end Lh
set_option Elab.async false
set_option linter.all false
set_option maxRecDepth 100000
set_option maxHeartbeats 4000000
/-! Stores into lists and fields, several targets, comprehensions. -/
namespace Lh.P
open PySem PySem.Spec PyProof.Rows L2 SX
section
variable {X : Cx} {W : WX} {M : Md} {V O O' O1 T : List Nat} {e a b tg iter c : Expr} {es : List Expr} {st : Stmt} {pos : Pos}
/-! ### a list in a slot is changed -/
/-- the slot's list becomes another one -/
theorem EnvOk.change {K : PySem.W.Frag} {Z : Zn} {Γ : Env} {σ : L2.St} {H0 H : Hp} {i : Nat} {ρ : Addr} {o : HO} {p : PV} (E : EnvOk K Z O H0 H Γ σ) (hi : i ∈ O) {q : PV} (hq : Γ[i]? = some (some q)) (sq : scP q = false) (hs : σ[i]? = some (some (.ref ρ))) (r : Root K H0 (upd H ρ o) ρ p) :
    EnvOk K Z O H0 (upd H ρ o) (Γ.set i (some p)) σ := by
  obtain ⟨rt, h1, h2⟩ := E.own
  obtain ⟨k1, k2, k3, k4, k5⟩ := h1 i hi q hq sq
  have sp := root_sc r
  have e : rt i = ρ := by rw [k1] at hs; cases hs; rfl
  have hne : ∀ b o, H0 b = some o → b ≠ ρ := fun b o hb z => by rw [z, ← e, k3] at hb; cases hb
  refine ⟨by rw [List.length_set]; exact E.len, E.a, fun b u hb => ?_, fun b u hb => ?_, E.d, fun j x hx hj => ?_, rt, fun j hj x hx sx => ?_, fun y hy => ?_⟩
  · rw [upd_ne fun z => ?_]
    · exact E.b b u hb
    · rw [z, ← e, k4] at hb; cases hb
  · rw [upd_ne (hne b u hb)]
    exact E.c b u hb
  · rcases getE_set hx with ⟨rfl, z⟩ | ⟨_, hx⟩
    · cases z
      exact hj.elim (fun hj => absurd hi hj) fun z => by rw [sp] at z; cases z
    · exact E.vals j x hx hj
  · rcases getE_set hx with ⟨rfl, z⟩ | ⟨hji, hx⟩
    · cases z
      refine ⟨k1, by rw [e]; exact r, k3, k4, fun l hl hn ⟨y, hy, sy⟩ => k5 l hl hn ?_⟩
      rcases getE_set hy with ⟨z, _⟩ | ⟨_, hy⟩
      · exact absurd z hn
      · exact ⟨y, hy, sy⟩
    · obtain ⟨m1, m2, m3, m4, m5⟩ := h1 j hj x hx sx
      have hr : rt j ≠ ρ := by rw [← e]; exact fun z => m5 i hi (fun y => hji y.symm) ⟨q, hq, sq⟩ z.symm
      refine ⟨m1, m2.keep (upd_ne hr), m3, m4, fun l hl hn ⟨y, hy, sy⟩ => m5 l hl hn ?_⟩
      rcases getE_set hy with ⟨rfl, _⟩ | ⟨_, hy⟩
      · exact ⟨q, hq, sq⟩
      · exact ⟨y, hy, sy⟩
  · obtain ⟨m1, m2, x, m3, sx⟩ := h2 y hy
    refine ⟨m1, m2, ?_⟩
    by_cases z : y.1 = i
    · rw [z, List.getElem?_set_self (List.getElem?_eq_some_iff.mp hq).1]
      exact ⟨p, rfl, sp⟩
    · exact ⟨x, by rw [List.getElem?_set_ne fun w => z w.symm]; exact m3, sx⟩
/-- what a method of lists does: the list, the arguments, the list behind -/
def MtP (X : Cx) (id : String) (m : List PV → List PV → Option (List PV)) : Prop := ∃ r, MtR X id r ∧ ∀ (l : Addr) xs vs ps ws ys H0 H (Q : VK), H l = some (.lst vs) → Reps X.K H0 xs vs → Reps X.K H0 ps ws → m xs ps = some ys → (∀ vs' u, Reps X.K H0 ys vs' → Q u (upd H l (.lst vs'))) → r (.ref l) ws H Q
def dMt (V O : List Nat) (i : Nat) (fa : Env → Rs (List PV)) (m : List PV → List PV → Option (List PV)) : Env → Out := fun Γ => match Γ[i]? with
  | some (some (.lst _)) => outE (fa Γ) Γ fun ps => match Γ[i]? with
    | some (some (.lst xs)) => (match m xs ps with
      | some ys => if sep V O Γ (awayS ps) then .next (Γ.set i (some (.lst ys))) else .bad
      | none => .bad)
    | _ => .bad
  | _ => .bad
/-- xs.m(e, ..) as a statement, xs a slot that may be changed -/
theorem s_mt {i : Nat} {id : String} {m : List PV → List PV → Option (List PV)} {fa : Env → Rs (List PV)} (hm : MtP X id m) (ps : ∀ r t, MtR X id r → PA X es t → PS X st (tDrop (tBM X.K "list" r (tVar i) t))) (ha : AX X W V es fa) (hi : i ∈ O) (ok : OkO M O) : SX X W M O O st (dMt V O i fa m) := fun Z Γ σ H0 H D io E p => by
  obtain ⟨r, mr, hr⟩ := hm
  refine PS.to (ps r _ mr pa_of) ?_
  have p : PostS X.K W Z M O D (match Γ[i]? with
    | some (some (.lst _)) => outE (fa Γ) Γ fun ps => match Γ[i]? with
      | some (some (.lst xs)) => (match m xs ps with
        | some ys => if sep V O Γ (awayS ps) then .next (Γ.set i (some (.lst ys))) else .bad
        | none => .bad)
      | _ => .bad
    | _ => .bad) := p
  cases hg : Γ[i]? with
  | none => rw [hg] at p; exact False.elim p
  | some o =>
    cases o with
    | none => rw [hg] at p; exact False.elim p
    | some q =>
      cases q with
      | lst xs =>
        simp only [hg] at p
        obtain ⟨ρ, h1, h2⟩ := E.own
        obtain ⟨k1, ⟨vs, k2, rs⟩, k3, k4, k5⟩ := h1 i hi _ hg rfl
        refine ⟨_, k1, .inl ⟨rfl, vs, SqL.of k2⟩, ?_⟩
        refine lend_post (V := V) (R := fun _ H => taOf X es σ H fun ws H2 => r (.ref (ρ i)) ws H2 fun _ H1 => D.nx σ H1) io ok E p (fun j => j ∈ V) (fun j hj _ => hj) (fun H0p sh sm q => ha Γ σ H0p H _ sh sm q) fun ps H0' H' _ pn L ws rw_ => ?_
        obtain ⟨sH, _, H0'', E2, s1, _, _, aw⟩ := L
        cases hm : m xs ps with
        | none => rw [hm] at pn; exact False.elim pn
        | some ys =>
          rw [hm] at pn
          dsimp only at pn
          split at pn
          · rename_i hs
            have rp : Reps X.K H0'' ps ws := reps_away (fun x hx v r => aw x v (fun j hj hv q hq => by
              unfold sep at hs
              have := List.all_eq_true.mp hs j hj
              rw [if_pos hv, hq] at this
              exact awayS_mem this hx) r) rw_
            refine hr (ρ i) xs vs ps ws ys H0'' H' _ (sH _ _ k2) (Reps.mono s1 _ _ rs) rp hm fun vs' u ry => pn _ _ _ (E2.change hi hg rfl k1 ⟨vs', upd_same, ry⟩)
          · exact False.elim pn
      | _ => rw [hg] at p; exact False.elim p
def mAppend : List PV → List PV → Option (List PV)
  | xs, [y] => if xs.length < 100000 then some (xs ++ [y]) else none
  | _, _ => none
theorem m_append : MtP X "list.append" mAppend := ⟨_, L2.mt_append, fun l xs vs ps ws ys H0 H Q hl rs rp e k => by
  match ps, e with
  | [y], e =>
    obtain ⟨w, rfl, rw_⟩ := reps1 rp
    have e : (if xs.length < 100000 then some (xs ++ [y]) else none) = some ys := e
    split at e
    · rename_i hz
      cases e
      exact ⟨l, vs, w, rfl, rfl, hl, by rw [rs.len]; exact limL hz, k _ _ (rs.app ⟨rw_, trivial⟩)⟩
    · cases e⟩
def mInsert : List PV → List PV → Option (List PV)
  | xs, [.int i, y] => if xs.length < 100000 ∧ 0 ≤ i ∧ i < 1000000000 then some (xs.take i.toNat ++ [y] ++ xs.drop i.toNat) else none
  | _, _ => none
theorem m_insert : MtP X "list.insert" mInsert := ⟨_, L2.mt_insert, fun l xs vs ps ws ys H0 H Q hl rs rp e k => by
  match ps, e with
  | [.int i, y], e =>
    obtain ⟨v, w, rfl, rv, rw_⟩ := reps2 rp
    have e : (if xs.length < 100000 ∧ 0 ≤ i ∧ i < 1000000000 then some (xs.take i.toNat ++ [y] ++ xs.drop i.toNat) else none) = some ys := e
    split at e
    · rename_i hz
      cases e
      exact ⟨l, vs, i, w, rfl, by rw [show v = .int i from rv], hl, by rw [rs.len]; exact limL hz.1, hz.2.1, by omega, k _ _ (((rs.take _).app (show Reps X.K H0 [y] [w] from ⟨rw_, trivial⟩)).app (rs.drop _))⟩
    · cases e⟩
def mPopAt : List PV → List PV → Option (List PV)
  | xs, [.int i] => if 0 ≤ i ∧ i < xs.length ∧ xs.length < 1000000000 then some (xs.eraseIdx i.toNat) else none
  | _, _ => none
theorem m_popAt : MtP X "list.pop" mPopAt := ⟨rPopAt, L2.mt_popAt, fun l xs vs ps ws ys H0 H Q hl rs rp e k => by
  match ps, e with
  | [.int i], e =>
    obtain ⟨v, rfl, rv⟩ := reps1 rp
    have e : (if 0 ≤ i ∧ i < xs.length ∧ xs.length < 1000000000 then some (xs.eraseIdx i.toNat) else none) = some ys := e
    split at e
    · rename_i hz
      cases e
      have hl2 : i.toNat < vs.length := by rw [rs.len]; omega
      refine ⟨l, vs, i, i.toNat, _, rfl, by rw [show v = .int i from rv], hl, by omega, by omega, ?_, List.getElem?_eq_getElem hl2, k _ _ (rs.erase _)⟩
      unfold seqIndex?
      have h1 : (decide (0 ≤ i) && decide (i < (vs.length : Int))) = true := by
        rw [rs.len]
        simp
        omega
      rw [if_neg (show ¬ i < 0 by omega)]
      show (if (decide (0 ≤ i) && decide (i < (vs.length : Int))) = true then some i.toNat else none) = _
      rw [if_pos h1]
    · cases e⟩
/-! ### xs[i] = e -/
def dSub (V O : List Nat) (i : Nat) (fv fi : Env → Rs PV) : Env → Out := fun Γ => match Γ[i]? with
  | some (some (.lst _)) => outE ((fv Γ).bind fun x => (fi Γ).bind fun y => .ok (x, y)) Γ fun xy => match Γ[i]?, xy with
    | some (some (.lst xs)), (x, .int k) => (match ixN xs.length k with
      | some j => if sep V O Γ (away x) then .next (Γ.set i (some (.lst (xs.set j x)))) else .bad
      | none => .bad)
    | _, _ => .bad
  | _ => .bad
theorem s_sub {i : Nat} {fv fi : Env → Rs PV} (ps : ∀ te ti, PE X e te → PE X a ti → PS X st (tAsg te (gSub (tVar i) ti rSetL))) (hv : EX X W V e fv) (ha : EX X W V a fi) (hi : i ∈ O) (ok : OkO M O) : SX X W M O O st (dSub V O i fv fi) := fun Z Γ σ H0 H D io E p => by
  refine PS.to (ps _ _ pe_of pe_of) ?_
  have p : PostS X.K W Z M O D (match Γ[i]? with
    | some (some (.lst _)) => outE ((fv Γ).bind fun x => (fi Γ).bind fun y => .ok (x, y)) Γ fun xy => match Γ[i]?, xy with
      | some (some (.lst xs)), (x, .int k) => (match ixN xs.length k with
        | some j => if sep V O Γ (away x) then .next (Γ.set i (some (.lst (xs.set j x)))) else .bad
        | none => .bad)
      | _, _ => .bad
    | _ => .bad) := p
  cases hg : Γ[i]? with
  | none => rw [hg] at p; exact False.elim p
  | some o =>
    cases o with
    | none => rw [hg] at p; exact False.elim p
    | some q =>
      cases q with
      | lst xs =>
        simp only [hg] at p
        obtain ⟨ρ, h1, h2⟩ := E.own
        obtain ⟨k1, ⟨vs, k2, rs⟩, k3, k4, k5⟩ := h1 i hi _ hg rfl
        refine lend_post (V := V) (good := fun (xy : PV × PV) H0' H' => ∀ v w, Rep X.K H0' xy.1 v → Rep X.K H0' xy.2 w → rSetL (.ref (ρ i)) w v H' fun H1 => D.nx σ H1) (R := fun _ H => tOf X e σ H fun v H1 => gSub (tVar i) (tOf X a) rSetL v σ H1 D.nx) io ok E p (fun j => j ∈ V) (fun j hj _ => hj) (fun H0p sh sm q => ?_) fun xy H0' H' _ pn L v w rv rw_ => ?_
        · refine hv Γ σ H0p H _ sh sm (q.step.mono fun x H1 H2 g q1 v rv => ⟨_, k1, ?_⟩)
          exact ha Γ σ H1 H2 _ (sh.mono g.a) g.c (q1.step.mono fun y H3 H4 g2 q2 w rw_ => Post.pure (K := X.K) (W := W) (σ := σ) (good := fun (xy : PV × PV) H0' H' => ∀ v w, Rep X.K H0' xy.1 v → Rep X.K H0' xy.2 w → rSetL (.ref (ρ i)) w v H' fun H1 => D.nx σ H1) (a := (x, y)) g2.c q2 v w (Rep.mono g2.a _ _ rv) rw_)
        · obtain ⟨sH, _, H0'', E2, s1, _, _, aw⟩ := L
          obtain ⟨x, y⟩ := xy
          cases y with
          | int k =>
            dsimp only at pn rv rw_
            cases hj : ixN xs.length k with
            | none => rw [hj] at pn; exact False.elim pn
            | some j =>
              rw [hj] at pn
              dsimp only at pn
              split at pn
              · rename_i hs
                have rx : Rep X.K H0'' x v := aw x v (fun l hl hv q hq => by
                  unfold sep at hs
                  have := List.all_eq_true.mp hs l hl
                  rw [if_pos hv, hq] at this
                  exact this) rv
                refine ⟨ρ i, vs, k, j, rfl, rw_, sH _ _ k2, by rw [rs.len]; exact hj, ?_⟩
                exact pn _ _ _ (E2.change hi hg rfl k1 ⟨_, upd_same, (Reps.mono s1 _ _ rs).set j rx⟩)
              · exact False.elim pn
          | _ => exact False.elim pn
      | _ => rw [hg] at p; exact False.elim p
/-! ### a, b = e -/
def dUnp (g : PV → Env → Option Env) (f : Env → Rs PV) : Env → Out := fun Γ => outE (f Γ) Γ fun p => match g p Γ with
  | some Γ' => .next Γ'
  | none => .bad
/-- what is read is told for good -/
theorem s_unp {f : Env → Rs PV} {t : TG} {g : PV → Env → Option Env} (ps : ∀ te, PE X e te → PS X st (tAsg te t)) (gt : GT X.K T t g) (he : EX X W V e f) (hO : ∀ j ∈ O', j ∈ O ∧ j ∉ V ∧ j ∉ T) (hI : ∀ j ∈ M.IO, j ∈ O') (ok : OkO M O) : SX X W M O O' st (dUnp g f) := fun Z Γ σ H0 H D io E p => by
  refine PS.to (ps _ pe_of) ?_
  refine lend_post (V := V) (R := fun _ H => tOf X e σ H fun x H1 => t x σ H1 D.nx) io ok E p (fun j => j ∉ O') (fun j hj _ z => (hO j z).2.1 hj) (fun H0p sh sm q => he Γ σ H0p H _ sh sm q) fun a H0' H' _ pn L v r => ?_
  have E2 := L.2.1 O' (fun j => ⟨fun z => ⟨(hO j z).1, fun y => y z⟩, fun z => Classical.byContradiction z.2⟩) fun q hq => hI _ (io q hq)
  cases hg : g a Γ with
  | none => rw [hg] at pn; exact False.elim pn
  | some Γ' =>
    rw [hg] at pn
    refine gt a v Γ σ H0' H' _ Γ' r E2.c hg fun u hu e => ?_
    have E3 := E2.puts (u := u) fun q hq => ⟨fun z => (hO _ z).2.2 (hu q hq).1, (hu q hq).2⟩
    rw [← e] at E3
    exact pn _ _ _ E3
/-- a, b = x, y -/
def dPar (i j : Nat) (f : Env → Rs (List PV)) : Env → Out := fun Γ => outE (f Γ) Γ fun ps => match ps with
  | [x, y] => .next ((Γ.set i (some x)).set j (some y))
  | _ => .bad
theorem s_par {i j : Nat} {f : Env → Rs (List PV)} (ps : ∀ ta, PA X es ta → PS X st (tPar i j ta)) (he : AX X W V es f) (hO : ∀ l ∈ O', l ∈ O ∧ l ∉ V ∧ l ≠ i ∧ l ≠ j) (hI : ∀ j ∈ M.IO, j ∈ O') (ok : OkO M O) : SX X W M O O' st (dPar i j f) := fun Z Γ σ H0 H D io E p => by
  refine PS.to (ps _ pa_of) ?_
  refine lend_post (V := V) (R := fun _ H => tPar i j (taOf X es) D σ H) io ok E p (fun j => j ∉ O') (fun j hj _ z => (hO j z).2.1 hj) (fun H0p sh sm q => he Γ σ H0p H _ sh sm q) fun ps H0' H' _ pn L vs rs => ?_
  have E2 := L.2.1 O' (fun j => ⟨fun z => ⟨(hO j z).1, fun y => y z⟩, fun z => Classical.byContradiction z.2⟩) fun q hq => hI _ (io q hq)
  match ps, pn with
  | [x, y], pn =>
    obtain ⟨v, w, rfl, rv, rw_⟩ := reps2 rs
    exact ⟨v, w, rfl, pn _ _ _ ((E2.put (fun z => (hO _ z).2.2.1 rfl) rv).put (fun z => (hO _ z).2.2.2 rfl) rw_)⟩
/-! ### self.f = e -/
def putPf (f : Str) (p : PV) : List (Str × PV) → List (Str × PV)
  | [] => [(f, p)]
  | (g, q) :: r => if g = f then (g, p) :: r else (g, q) :: putPf f p r
theorem putF_rep {K : PySem.W.Frag} {H0 : Hp} {f : Str} {p : PV} {v : L2.V} (r : Rep K H0 p v) : ∀ {fs : List (Str × PV)} {gs : List (Str × L2.V)}, RepF K H0 fs gs → RepF K H0 (putPf f p fs) (putF f v gs)
  | [], [], _ => ⟨rfl, r, trivial⟩
  | [], _ :: _, h => False.elim h
  | _ :: _, [], h => False.elim h
  | (g, x) :: fs, (g', w) :: gs, ⟨e, h1, h2⟩ => by
    subst e
    unfold putPf putF
    by_cases z : g = f
    · rw [if_pos z, if_pos z]; exact ⟨rfl, r, h2⟩
    · rw [if_neg z, if_neg z]; exact ⟨rfl, h1, putF_rep r h2⟩
theorem repf_len {K : PySem.W.Frag} {H0 : Hp} : ∀ {fs : List (Str × PV)} {gs : List (Str × L2.V)}, RepF K H0 fs gs → gs.length = fs.length
  | [], [], _ => rfl
  | [], _ :: _, h => False.elim h
  | _ :: _, [], h => False.elim h
  | _ :: _, _ :: _, ⟨_, _, h2⟩ => by rw [List.length_cons, List.length_cons, repf_len h2]
def dFld (V O : List Nat) (i : Nat) (C : Addr) (f : Str) (fe : Env → Rs PV) : Env → Out := fun Γ => outE (fe Γ) Γ fun p => match Γ[i]? with
  | some (some (.ins D fs)) => if D = C ∧ fs.length < 100 ∧ sep V O Γ (away p) = true then .next (Γ.set i (some (.ins D (putPf f p fs)))) else .bad
  | _ => .bad
theorem s_fld {i : Nat} {C : Addr} {f : Str} {fe : Env → Rs PV} (ps : ∀ te, PE X e te → PS X st (sFld X.K (tVar i) te f)) (he : EX X W V e fe) (cl : Cls X.K C) (na : NoAttr X.K C f) (hi : i ∈ O) (ok : OkO M O) : SX X W M O O st (dFld V O i C f fe) := fun Z Γ σ H0 H D io E p => by
  refine PS.to (ps _ pe_of) ?_
  refine lend_post (V := V) (R := fun _ H => sFld X.K (tVar i) (tOf X e) f D σ H) io ok E p (fun j => j ∈ V) (fun j hj _ => hj) (fun H0p sh sm q => he Γ σ H0p H _ sh sm q) fun pw H0' H' _ pn L v r => ?_
  obtain ⟨sH, _, H0'', E2, s1, _, _, aw⟩ := L
  cases hg : Γ[i]? with
  | none => rw [hg] at pn; exact False.elim pn
  | some o =>
    cases o with
    | none => rw [hg] at pn; exact False.elim pn
    | some q =>
      cases q with
      | ins D' fs =>
        simp only [hg] at pn
        split at pn
        · rename_i hc
          obtain ⟨e, hl, hs⟩ := hc
          subst e
          obtain ⟨ρ, h1, h2⟩ := E2.own
          obtain ⟨k1, ⟨dx, gs, k2, rs⟩, k3, k4, k5⟩ := h1 i hi _ hg rfl
          have rp : Rep X.K H0'' pw v := aw pw v (fun l hl hv q hq => by
            unfold sep at hs
            have := List.all_eq_true.mp hs l hl
            rw [if_pos hv, hq] at this
            exact this) r
          refine ⟨_, k1, ρ i, D', dx, gs, rfl, k2, cl, na, by rw [repf_len rs]; omega, ?_⟩
          exact pn _ _ _ (E2.change hi hg rfl k1 ⟨dx, _, upd_same, putF_rep rp rs⟩)
        · exact False.elim pn
      | _ => rw [hg] at pn; exact False.elim pn
/-! ### [e for target in .. if ..] -/
def wipeE (vs : List Nat) (Γ : Env) : Env := vs.foldr (fun i Γ => Γ.set i none) Γ
theorem wipeE_len (vs : List Nat) (Γ : Env) : (wipeE vs Γ).length = Γ.length := by
  induction vs with
  | nil => rfl
  | cons i vs ih => show ((wipeE vs Γ).set i none).length = _; rw [List.length_set]; exact ih
theorem Shr.wipe {K : PySem.W.Frag} {H0 : Hp} {Γ : Env} {σ : L2.St} (h : Shr K V H0 Γ σ) (vs : List Nat) : Shr K V H0 (wipeE vs Γ) (wipe σ vs) := by
  induction vs with
  | nil => exact h
  | cons i vs ih =>
    refine ⟨by show ((L2.wipe σ vs).set i none).length = ((wipeE vs Γ).set i none).length; rw [List.length_set, List.length_set]; exact ih.1, fun j hj q hq => ?_⟩
    have hq : ((wipeE vs Γ).set i none)[j]? = some (some q) := hq
    rcases getE_set hq with ⟨_, e⟩ | ⟨hne, hq⟩
    · cases e
    · obtain ⟨v, k1, k2⟩ := ih.2 j hj q hq
      refine ⟨v, ?_, k2⟩
      show ((L2.wipe σ vs).set i none)[j]? = _
      rw [List.getElem?_set_ne fun z => hne z.symm]
      exact k1
theorem wipe_set {σ : L2.St} {vs : List Nat} {i : Nat} {o : Option L2.V} (h : i ∈ vs) : wipe (σ.set i o) vs = wipe σ vs := by
  induction vs with
  | nil => cases h
  | cons j vs ih =>
    show (wipe (σ.set i o) vs).set j none = (wipe σ vs).set j none
    by_cases hi : i ∈ vs
    · rw [ih hi]
    · have e : i = j := (List.mem_cons.mp h).elim _root_.id fun z => absurd z hi
      subst e
      have key : ∀ (vs : List Nat), i ∉ vs → wipe (σ.set i o) vs = (wipe σ vs).set i o := by
        intro vs
        induction vs with
        | nil => intro _; rfl
        | cons k vs ih2 =>
          intro hk
          rw [List.mem_cons, not_or] at hk
          show (wipe (σ.set i o) vs).set k none = ((wipe σ vs).set k none).set i o
          rw [ih2 hk.2, List.set_comm _ _ hk.1]
      rw [key vs hi, List.set_set]
theorem wipe_puts {vs : List Nat} : ∀ {u : Ups} {σ : L2.St}, (∀ q ∈ u, q.1 ∈ vs) → wipe (putV u σ) vs = wipe σ vs
  | [], _, _ => rfl
  | q :: u, σ, h => by
    show wipe (putV u (σ.set q.1 (some q.2.2))) vs = _
    rw [wipe_puts fun q' hq' => h q' (List.mem_cons_of_mem _ hq'), wipe_set (h q List.mem_cons_self)]
theorem wipe_wipe {vs : List Nat} {σ : L2.St} : wipe (wipe σ vs) vs = wipe σ vs := by
  have key : ∀ (ws : List Nat), (∀ i ∈ ws, i ∈ vs) → wipe (wipe σ ws) vs = wipe σ vs := by
    intro ws
    induction ws with
    | nil => intro _; rfl
    | cons i ws ih =>
      intro h
      show wipe ((wipe σ ws).set i none) vs = _
      rw [wipe_set (h i List.mem_cons_self), ih fun j hj => h j (List.mem_cons_of_mem _ hj)]
  exact key vs fun _ h => h
def yesB : Env → Rs Bool := fun _ => .ok true
/-- tests of a clause -/
def CX' (X : Cx) (W : WX) (V : List Nat) (ifs : List Expr) (f : Env → Rs Bool) : Prop := ∃ tt, PTs X ifs tt ∧ ∀ Γ σ H0 H Q, Shr X.K V H0 Γ σ → Same H0 H → Post X.K W σ (gT Q) H0 H (f Γ) → tt σ H Q
theorem cx_nil : CX' X W V [] yesB := ⟨_, pts_nil, fun Γ σ H0 H Q sh sm q => pT sm q⟩
theorem cx_one {f : Env → Rs Bool} (h : TX X W V c f) : CX' X W V [c] f := ⟨_, pts_one pt_of, fun Γ σ H0 H Q sh sm q => h Γ σ H0 H Q sh sm q⟩
/-- no error flies out of a block -/
def Rs.okB {α β : Type} : Rs α → (α → Rs β) → Rs β
  | .ok a, f => f a
  | _, _ => .bad
def lcL (vs : List Nat) (g : PV → Env → Option Env) (fc : Env → Rs Bool) (fe : Env → Rs PV) (Γ : Env) : List PV → List PV → Rs PV
  | [], acc => .ok (.lst acc)
  | x :: xs, acc => match g x (wipeE vs Γ) with
    | none => .bad
    | some Γ2 => (fc Γ2).okB fun b => if b = true then (fe Γ2).okB fun y => if acc.length < 100000 then lcL vs g fc fe Γ xs (acc ++ [y]) else .bad else lcL vs g fc fe Γ xs acc
def bLc (vs : List Nat) (fi : Env → Rs (List PV)) (g : PV → Env → Option Env) (fc : Env → Rs Bool) (fe : Env → Rs PV) : Env → Rs PV := fun Γ => (fi Γ).bind fun ps => lcL vs g fc fe Γ ps []
abbrev W0 : WX := fun _ _ _ _ => False
/-- what a block's reading gives, wherever it runs -/
def BlkE (X : Cx) (V : List Nat) (scope : Scope) (el : Expr) (te : TE) (f : Env → Rs PV) : Prop := (∀ (s : Shared) (H : Hp) (C : Addr) (cl : List (Str × Addr)) (fp : List Addr), PE (X.blk s H scope (compEnvC scope cl C X.env) fp) el te) ∧ ∀ Γ σ H0 H Q, Shr X.K V H0 Γ σ → Same H0 H → Post X.K W0 σ (gE X.K Q) H0 H (f Γ) → te σ H Q
def BlkT (X : Cx) (V : List Nat) (scope : Scope) (ifs : List Expr) (tt : TT) (f : Env → Rs Bool) : Prop := (∀ (s : Shared) (H : Hp) (C : Addr) (cl : List (Str × Addr)) (fp : List Addr), PTs (X.blk s H scope (compEnvC scope cl C X.env) fp) ifs tt) ∧ ∀ Γ σ H0 H Q, Shr X.K V H0 Γ σ → Same H0 H → Post X.K W0 σ (gT Q) H0 H (f Γ) → tt σ H Q
/-- readings over all blocks -/
theorem blkE {scope : Scope} {el : Expr} {f : Env → Rs PV} (h : ∀ (s : Shared) (H : Hp) (C : Addr) (cl : List (Str × Addr)) (fp : List Addr), EX (X.blk s H scope (compEnvC scope cl C X.env) fp) W0 V el f) :
    BlkE X V scope el (fun σ H Q => ∀ (s : Shared) (Hb : Hp) (C : Addr) (cl : List (Str × Addr)) (fp : List Addr), tOf (X.blk s Hb scope (compEnvC scope cl C X.env) fp) el σ H Q) f :=
  ⟨fun s H C cl fp => ⟨fun pins s' σ H' Q I q => q s H C cl fp pins s' I⟩, fun Γ σ H0 H Q sh sm q s Hb C cl fp => h s Hb C cl fp Γ σ H0 H Q sh sm q⟩
def ctOf (X : Cx) (ifs : List Expr) : TT := fun σ H Q => ∀ pins s, Inv X pins σ H s → wpAny (model X.prog X.w) X.A (forIn ifs true fun c r => if r = true then do let ok ← isTrue c X.env (eval c X.env); pure (ForInStep.yield ok) else pure (ForInStep.yield r)) (TP X pins σ Q) X.xe s
theorem blkT {scope : Scope} {ifs : List Expr} {f : Env → Rs Bool} (h : ∀ (s : Shared) (H : Hp) (C : Addr) (cl : List (Str × Addr)) (fp : List Addr), CX' (X.blk s H scope (compEnvC scope cl C X.env) fp) W0 V ifs f) :
    BlkT X V scope ifs (fun σ H Q => ∀ (s : Shared) (Hb : Hp) (C : Addr) (cl : List (Str × Addr)) (fp : List Addr), ctOf (X.blk s Hb scope (compEnvC scope cl C X.env) fp) ifs σ H Q) f :=
  ⟨fun s H C cl fp => ⟨fun pins s' σ H' Q I q => q s H C cl fp pins s' I⟩, fun Γ σ H0 H Q sh sm q s Hb C cl fp => by
    obtain ⟨tt, p1, p2⟩ := h s Hb C cl fp
    exact fun pins s' I => p1.run pins s' σ H Q I (p2 Γ σ H0 H Q sh sm q)⟩
theorem lc_ot {scope : Scope} {wi : TI} {t : TG} {tt : TT} {te : TE} {fi : Env → Rs (List PV)} {g : PV → Env → Option Env} {fc : Env → Rs Bool} {fe : Env → Rs PV} {vs V2 : List Nat} {el : Expr} {ifs : List Expr}
    (hi : ∀ Γ σ H0 H R, Shr X.K V H0 Γ σ → Same H0 H → Post X.K W σ (fun ps H0' H' => ∀ J, Wk X.K H0' J ps → R J H') H0 H (fi Γ) → wi σ H R) (gt : GT X.K vs t g) (hc : BlkT X V2 scope ifs tt fc) (he : BlkE X V2 scope el te fe) (hV : ∀ j ∈ V2, j ∈ V) : OT X W V (tLc wi t tt te vs) (bLc vs fi g fc fe) := fun Γ σ H0 H Q sh sm q => by
  refine hi Γ σ H0 H _ sh sm (q.step.mono fun ps H1 H2 g1 q1 J wk => fun D hD => ?_)
  have hV2 : ∀ {H0}, Shr X.K V H0 Γ σ → Shr X.K V2 H0 Γ σ := fun h => ⟨h.1, fun i hi => h.2 i (hV i hi)⟩
  -- told for good at a turn: Ha; all: Hc; D: the list so far
  refine ⟨fun i m Hc => m = ps.length - i ∧ i ≤ ps.length ∧ ∃ Ha acc vs', Gr H1 H2 Ha Hc ∧ Ha D = none ∧ Hc D = some (.lst vs') ∧ Reps X.K Ha acc vs' ∧ Post X.K W σ (gO X.K H Q) H1 H2 (lcL vs g fc fe Γ (ps.drop i) acc), ?_, ?_⟩
  · exact ⟨ps.length, by simp, Nat.zero_le _, H1, [], [], Gr.newO g1.c hD, none_back g1.c hD, upd_same, trivial, q1⟩
  · rintro i m Hc ⟨rfl, hi2, Ha, acc, vs', G, nD, hDl, ra, pq⟩
    by_cases hlt : i < ps.length
    · obtain ⟨x, hx⟩ : ∃ x, ps[i]? = some x := ⟨ps[i], List.getElem?_eq_getElem hlt⟩
      have hd : ps.drop i = x :: ps.drop (i + 1) := by
        rw [List.drop_eq_getElem_cons hlt]
        congr 1
        rw [List.getElem?_eq_getElem hlt] at hx
        exact Option.some.inj hx
      rw [hd] at pq
      refine .inr ⟨wk.go i Hc hlt (G.a.trans G.c), fun H' => (ps.length - (i + 1) = ps.length - (i + 1) ∧ i + 1 ≤ ps.length ∧ ∃ Ha acc vs', Gr H1 H2 Ha H' ∧ Ha D = none ∧ H' D = some (.lst vs') ∧ Reps X.K Ha acc vs' ∧ Post X.K W σ (gO X.K H Q) H1 H2 (lcL vs g fc fe Γ (ps.drop (i + 1)) acc)), fun H' h => ⟨ps.length - (i + 1), by omega, h⟩, fun v H4 y => ?_⟩
      obtain ⟨H04, g4, r4⟩ := wk.yld i Hc v H4 hlt (G.a.trans G.c) y Ha G.a G.c
      have nDk : ∀ {Hx Hy : Hp}, Gr Ha Hc Hx Hy → Hx D = none := fun {Hx Hy} gg => by
        cases e : Hx D with
        | none => rfl
        | some o =>
          rcases gg.d D (by rw [e]; simp) with z | z
          · exact absurd nD z
          · rw [hDl] at z; cases z
      unfold lcL at pq
      cases hg : g x (wipeE vs Γ) with
      | none => rw [hg] at pq; exact False.elim pq
      | some Γ2 =>
        rw [hg] at pq
        dsimp only at pq
        refine gt x v (wipeE vs Γ) (L2.wipe σ vs) H04 H4 _ Γ2 (r4 x hx) g4.c hg fun u hu e2 => ⟨?_, ?_⟩
        · rw [wipe_puts fun q hq => (hu q hq).1, wipe_wipe]
        have sh2 : Shr X.K V2 H04 Γ2 (putV u (L2.wipe σ vs)) := by
          rw [e2]
          exact ((((hV2 sh).mono (g1.a.trans (G.a.trans g4.a))).wipe vs).puts fun q hq => (hu q hq).2)
        refine hc.2 Γ2 _ H04 H4 _ sh2 g4.c ?_
        cases hfc : fc Γ2 with
        | ex C fs => rw [hfc] at pq; exact False.elim pq
        | bad => rw [hfc] at pq; exact False.elim pq
        | ok k =>
          rw [hfc] at pq
          have pq : Post X.K W σ (gO X.K H Q) H1 H2 (if k = true then (fe Γ2).okB fun y => if acc.length < 100000 then lcL vs g fc fe Γ (ps.drop (i + 1)) (acc ++ [y]) else .bad else lcL vs g fc fe Γ (ps.drop (i + 1)) acc) := pq
          intro H05 H5 g5
          have g45 := g4.trans g5
          cases k with
          | false =>
            rw [if_neg (by decide)] at pq
            simp only [gT, Bool.false_eq_true, if_false]
            exact ⟨trivial, hlt, H05, acc, vs', G.trans g45, nDk g45, g45.b _ _ hDl, Reps.mono g45.a _ _ ra, pq⟩
          | true =>
            rw [if_pos rfl] at pq
            simp only [gT, if_true]
            refine he.2 Γ2 _ H05 H5 _ (sh2.mono g5.a) g5.c ?_
            cases hfe : fe Γ2 with
            | ex C fs => rw [hfe] at pq; exact False.elim pq
            | bad => rw [hfe] at pq; exact False.elim pq
            | ok y =>
              rw [hfe] at pq
              obtain ⟨hl, pq⟩ := post_if (show Post X.K W σ (gO X.K H Q) H1 H2 (if acc.length < 100000 then lcL vs g fc fe Γ (ps.drop (i + 1)) (acc ++ [y]) else .bad) from pq)
              intro H06 H6 g6 w rw_
              have g46 := g45.trans g6
              have n6 := nDk g46
              refine ⟨vs', g46.b _ _ hDl, by rw [ra.len]; exact limL hl, trivial, hlt, H06, acc ++ [y], vs' ++ [w], ⟨(G.trans g46).a, same_upd (G.trans g46).b hD, same_upd g6.c n6, (G.trans g46).d⟩, n6, upd_same, (Reps.mono g46.a _ _ ra).app ⟨rw_, trivial⟩, pq⟩
    · have e : i = ps.length := by omega
      subst e
      rw [List.drop_length] at pq
      exact .inl ⟨wk.stop Hc (G.a.trans G.c), (pq Ha Hc G).2 D (none_back g1.b hD) nD ⟨vs', hDl, ra⟩⟩
/-- as a value -/
theorem o_lc {scope : Scope} {own : List (Str × Nat)} {t : TG} {tt : TT} {te : TE} {fi : Env → Rs (List PV)} {g : PV → Env → Option Env} {fc : Env → Rs Bool} {fe : Env → Rs PV} {V2 : List Nat} {el : Expr} {ifs : List Expr} (hc : X.calm = true) (hN : X.N.Nodup)
    (hi : IX X W V tg iter fi) (ok : BlkOk X.N X.env.scope scope own) (hg : ∀ (s : Shared) (H : Hp) (C : Addr) (cl : List (Str × Addr)) (fp : List Addr), PG (X.blk s H scope (compEnvC scope cl C X.env) fp) tg t) (gt : GT X.K (own.map (·.2)) t g)
    (ht : BlkT X V2 scope ifs tt fc) (he : BlkE X V2 scope el te fe) (hV : ∀ j ∈ V2, j ∈ V) (hs : ∀ x, foldedSetIterable iter X.env x = pure x := by intro _; rfl) : OX X W V (.ListComp el [⟨tg, iter, ifs, 0⟩] scope pos) (bLc (own.map (·.2)) fi g fc fe) := fun Γ σ H0 H Q sh sm q => by
  obtain ⟨wi, pi, hwi⟩ := hi
  exact PE.to (pe_lc hc hN pi ok hg ht.1 he.1 hs) (lc_ot hwi gt ht he hV Γ σ H0 H Q sh sm q)
end
end Lh.P
set_option Elab.async false
set_option linter.all false
set_option maxRecDepth 100000
set_option maxHeartbeats 4000000
/-! Defs: what a body comes to; calls; classes; errors. -/
namespace Lh.P
open PySem PySem.Spec PyProof.Rows L2 SX

/-- the slots at a body's entry -/
def startE (N : List Str) (ps : List PV) : Env := ps.map some ++ List.replicate (N.length - ps.length) none
def bodyR (o : Out) : Rs PV := match o with
  | .next _ => .ok .non
  | .ret p _ => .ok p
  | .exc C fs _ => .ex C fs
  | _ => .bad
def bodyO (o : Out) : Rs PV := match o with
  | .next _ => .ok .non
  | .ret p _ => .ok p
  | .exc C fs _ => .ex C fs
  | _ => .bad
/-- a def's worth: n parameters -/
def fnF (N : List Str) (n : Nat) (f : Env → Out) : List PV → Rs PV := fun ps => if ps.length = n then bodyR (f (startE N ps)) else .bad
def fnO (N : List Str) (n : Nat) (f : Env → Out) : List PV → Rs PV := fun ps => if ps.length = n then bodyO (f (startE N ps)) else .bad
/-- a promise by a def's worth; one that hands back something new -/
def spF (K : PySem.W.Frag) (n : Nat) (F : List PV → Rs PV) : Sp := fun vs H Q E => vs.length = n ∧ ∃ ps H0, Reps K H0 ps vs ∧ Same H0 H ∧ Post K (fun cls d _ H => E cls d H) [] (gE K Q) H0 H (F ps)
def spO (K : PySem.W.Frag) (n : Nat) (F : List PV → Rs PV) : Sp := fun vs H Q E => vs.length = n ∧ ∃ ps H0, Reps K H0 ps vs ∧ Same H0 H ∧ Post K (fun cls d _ H => E cls d H) [] (gO K H Q) H0 H (F ps)
section
variable {P : Program} {w : World} {K : PySem.W.Frag} {mg : Str → Option Value} {base : Heap} {N ps : List Str} {x : Str} {st : Stmt} {k : Nat}
theorem start_rep {H0 : Hp} {qs : List PV} {vs : List V} (rs : Reps K H0 qs vs) (hl : qs.length ≤ N.length) : (L2.start N vs).length = (startE N qs).length ∧ ∀ (i : Nat) (p : PV), (startE N qs)[i]? = some (some p) → ∃ v, (L2.start N vs)[i]? = some (some v) ∧ Rep K H0 p v := by
  unfold L2.start startE
  have hl2 := rs.len
  refine ⟨by simp; omega, fun i p h => ?_⟩
  by_cases hi : i < qs.length
  · rw [List.getElem?_append_left (by simpa using hi), List.getElem?_map] at h
    obtain ⟨q, hq, e⟩ := Option.map_eq_some_iff.mp h
    cases e
    obtain ⟨v, h1, h2⟩ := rs.get hq
    refine ⟨v, ?_, h2⟩
    rw [List.getElem?_append_left (by simp; omega), List.getElem?_map, h1]
    rfl
  · rw [List.getElem?_append_right (by simpa using hi), List.getElem?_replicate] at h
    split at h <;> cases h
theorem env_start {H0 H : Hp} {qs : List PV} {vs : List V} (rs : Reps K H0 qs vs) (sm : Same H0 H) (hl : qs.length ≤ N.length) : EnvOk K ⟨H0, H, []⟩ [] H0 H (startE N qs) (L2.start N vs) := by
  obtain ⟨h1, h2⟩ := start_rep (N := N) rs hl
  exact ⟨h1, fun _ _ h => h, fun _ _ h => h, sm, fun _ h => .inl h, fun i p hp _ => h2 i p hp, fun _ => 0, fun i hi => (by cases hi), fun q hq => (by cases hq)⟩
theorem env_gr {O : List Nat} {H0 H H0' H' : Hp} {Γ : Env} {σ : L2.St} (E : EnvOk K ⟨H0, H, []⟩ O H0' H' Γ σ) : Gr H0 H H0' H' := ⟨E.a, E.b, E.c, E.d⟩
abbrev WF (E : XK) : WX := fun cls d _ H => E cls d H
theorem par_le (S : FnScope N ps (defScope st)) : ps.length ≤ N.length := by
  have := congrArg List.length S.pre
  rw [List.length_take] at this
  omega
/-- a def by its body -/
theorem fn_ok {fB : Env → Out} (D : Dfn K mg x st) (S : FnScope N ps (defScope st))
    (hb : ∀ (kV doc pm : Value) (an : Option Addr) (cdv ct : Value) (us : List Value), us.length = ps.length → bindArgs (PySem.W.fnOf x x (defArgs st) (defBody st) (defScope st) .none kV doc pm an cdv ct) ⟨us, []⟩ = pure (ps.zip us))
    (hB : ∀ (f : Addr) (cdv : Value) (A : Around) (outer : List PySem.Env) (s : Shared) (H : Hp) (E : XK), Room k (A.deeper (envOfC x (defScope st) s.heap.objs.size f cdv)) →
      BX (cxOf (L2.CX P w) P w K mg base N x (defScope st) f cdv A outer s H E) (WF E) ⟨[], [], [], false⟩ [] [] (defBody st) fB) : Cal P w K mg base (L2.CX P w) (k + 1) x ps (spF K ps.length (fnF N ps.length fB)) := by
  refine D.cal S (fun vs H Q E h => h.1) hb fun f cdv A outer s H vs Q E hr h => ⟨_, pss_of, ?_⟩
  obtain ⟨hl, qs, H0, rs, sm, q⟩ := h
  obtain ⟨hq, q⟩ := post_if q
  have hle : qs.length ≤ N.length := by rw [hq]; exact par_le S
  refine hB f cdv A outer s H E hr ⟨H0, H, []⟩ (startE N qs) (L2.start N vs) H0 H _ (fun q hq => by cases hq) (env_start rs sm hle) ?_
  cases hf : fB (startE N qs) with
  | next Γ =>
    rw [hf] at q
    exact fun σ H0' H' E' => q H0' H' (env_gr E') _ rfl
  | ret p Γ =>
    rw [hf] at q
    show ∀ v σ H0' H', EnvOk K ⟨H0, H, []⟩ [] H0' H' Γ σ → Rep K H0' p v → Q v H'
    exact fun v σ H0' H' E' r => q H0' H' (env_gr E') v r
  | exc C fs Γ =>
    rw [hf] at q
    exact fun d σ H0' H' E' r => q d H0' H' (env_gr E') r
  | brk Γ => rw [hf] at q; exact False.elim q
  | cont Γ => rw [hf] at q; exact False.elim q
  | bad => rw [hf] at q; exact False.elim q
theorem fn_okO {fB : Env → Out} (D : Dfn K mg x st) (S : FnScope N ps (defScope st))
    (hb : ∀ (kV doc pm : Value) (an : Option Addr) (cdv ct : Value) (us : List Value), us.length = ps.length → bindArgs (PySem.W.fnOf x x (defArgs st) (defBody st) (defScope st) .none kV doc pm an cdv ct) ⟨us, []⟩ = pure (ps.zip us))
    (hB : ∀ (f : Addr) (cdv : Value) (A : Around) (outer : List PySem.Env) (s : Shared) (H : Hp) (E : XK), Room k (A.deeper (envOfC x (defScope st) s.heap.objs.size f cdv)) →
      BX (cxOf (L2.CX P w) P w K mg base N x (defScope st) f cdv A outer s H E) (WF E) ⟨[], [], [], true⟩ [] [] (defBody st) fB) : Cal P w K mg base (L2.CX P w) (k + 1) x ps (spO K ps.length (fnO N ps.length fB)) := by
  refine D.cal S (fun vs H Q E h => h.1) hb fun f cdv A outer s H vs Q E hr h => ⟨_, pss_of, ?_⟩
  obtain ⟨hl, qs, H0, rs, sm, q⟩ := h
  obtain ⟨hq, q⟩ := post_if q
  have hle : qs.length ≤ N.length := by rw [hq]; exact par_le S
  refine hB f cdv A outer s H E hr ⟨H0, H, []⟩ (startE N qs) (L2.start N vs) H0 H _ (fun q hq => by cases hq) (env_start rs sm hle) ?_
  cases hf : fB (startE N qs) with
  | ret p Γ =>
    rw [hf] at q
    exact ⟨fun s v σ H0' H' E' r => (q H0' H' (env_gr E')).1 s v r, fun a σ H0' H' E' n0 n r => (q H0' H' (env_gr E')).2 a n n0 r⟩
  | exc C fs Γ =>
    rw [hf] at q
    exact fun d σ H0' H' E' r => q d H0' H' (env_gr E') r
  | next Γ =>
    rw [hf] at q
    exact fun σ H0' H' E' => (q H0' H' (env_gr E')).1 rfl _ rfl
  | brk Γ => rw [hf] at q; exact False.elim q
  | cont Γ => rw [hf] at q; exact False.elim q
  | bad => rw [hf] at q; exact False.elim q
end
/-! ### calls -/
theorem Post.arity {α : Type} {K : PySem.W.Frag} {W : WX} {σ : L2.St} {good : α → Hp → Hp → Prop} {H0 H : Hp} {n : Nat} {F : List PV → Rs α} (hn : ∀ qs, qs.length ≠ n → F qs = .bad) {qs : List PV} (h : Post K W σ good H0 H (F qs)) : qs.length = n := by
  by_cases e : qs.length = n
  · exact e
  · rw [hn qs e] at h; exact False.elim h
theorem Post.wf {α : Type} {K : PySem.W.Frag} {W : WX} {σ : L2.St} {good : α → Hp → Hp → Prop} {H0 H : Hp} : ∀ {r : Rs α}, Post K W σ good H0 H r → Post K (WF (WE W σ)) [] good H0 H r
  | .ok _, h => h
  | .ex _ _, h => h
  | .bad, h => h
theorem fnF_n {N : List Str} {n : Nat} {f : Env → Out} (qs : List PV) (h : qs.length ≠ n) : fnF N n f qs = .bad := if_neg h
theorem fnO_n {N : List Str} {n : Nat} {f : Env → Out} (qs : List PV) (h : qs.length ≠ n) : fnO N n f qs = .bad := if_neg h
section
variable {X : Cx} {W : WX} {M : Md} {V O O' : List Nat} {e : Expr} {es : List Expr} {pos p : Pos} {x : Str} {ps : List Str} {j k n : Nat} {F : List PV → Rs PV} {fa : Env → Rs (List PV)}
theorem x_call (C : Cal X.prog X.w X.K X.mg X.base (L2.CX X.prog X.w) k x ps (spF X.K n F)) (hn : ∀ qs, qs.length ≠ n → F qs = .bad) (hr : Room j X.A) (tk : Takes X W) (ha : AX X W V (e :: es) fa) (hk : k ≤ j := by decide) (hg : Gl X x := by rfl) (hdb : (x == ("__debug__" : Str)) = false := by decide)
    (he : starEach (e :: es) X.env = (false, eval e X.env) :: starEach es X.env := by rfl) (hpl : (backTo pos (starEach es X.env)).any (·.1) = false := by rfl) : EX X W V (.Call (.Name x p) (e :: es) [] pos) (bC fa F) := fun Γ σ H0 H Q sh sm q =>
  PE.to (pclS C hr tk pa_of hk hg hdb he hpl) (ha Γ σ H0 H _ sh sm (q.step.mono fun qs H1 H2 g q1 vs rs => ⟨by rw [rs.len]; exact q1.arity hn, qs, H1, rs, g.c, q1.wf⟩))
theorem o_call (C : Cal X.prog X.w X.K X.mg X.base (L2.CX X.prog X.w) k x ps (spO X.K n F)) (hn : ∀ qs, qs.length ≠ n → F qs = .bad) (hr : Room j X.A) (tk : Takes X W) (ha : AX X W V (e :: es) fa) (hk : k ≤ j := by decide) (hg : Gl X x := by rfl) (hdb : (x == ("__debug__" : Str)) = false := by decide)
    (he : starEach (e :: es) X.env = (false, eval e X.env) :: starEach es X.env := by rfl) (hpl : (backTo pos (starEach es X.env)).any (·.1) = false := by rfl) : OX X W V (.Call (.Name x p) (e :: es) [] pos) (bC fa F) := fun Γ σ H0 H Q sh sm q =>
  PE.to (pclS C hr tk pa_of hk hg hdb he hpl) (ha Γ σ H0 H _ sh sm (q.step.mono fun qs H1 H2 g q1 vs rs => ⟨by rw [rs.len]; exact q1.arity hn, qs, H1, rs, g.c, (q1.mono fun a H3 H4 g2 ga => ⟨ga.1, fun b n n0 r => ga.2 b (none_back g.b n) n0 r⟩).wf⟩))
/-! ### errors -/
def dRaise (C : Addr) (f : Env → Rs PV) : Env → Out := fun Γ => outE (f Γ) Γ fun _ => .exc C [] Γ
/-- raise X(e) -/
theorem s_raise {C : Addr} {pos' : Pos} {f : Env → Rs PV} (c : ExcC X.K X.mg x C) (hc : X.calm = true) (tk : Takes X W) (he : EX X W V e f) (ok : OkO M O) (hg : Gl X x := by rfl) (hs : starEach [e] X.env = (false, eval e X.env) :: starEach [] X.env := by rfl) (hdb : (x == ("__debug__" : Str)) = false := by decide) :
    SX X W M O O' (.Raise (some (.Call (.Name x p) [e] [] pos)) none pos') (dRaise C f) := fun Z Γ σ H0 H D io E pp => by
  refine PS.to (ps_raiseC c hc tk pe_of hg hs hdb) ?_
  refine lend_post (V := V) (R := fun _ H => tOf X e σ H fun _ H1 => W (.ref C) none σ H1) io ok E pp (fun j => j ∈ V) (fun j hj _ => hj) (fun H0p sh sm q => he Γ σ H0p H _ sh sm q) fun a H0' H' _ pn L v r => ?_
  obtain ⟨_, _, H0'', E2, _⟩ := L
  obtain ⟨H1, _, _, E3⟩ := E2.freeze ok.ox fun q hq => ok.io _ (io q hq)
  exact pn none σ H1 H' E3 (.inl ⟨rfl, rfl⟩)
/-- f'..': what it says is of no matter -/
def JX (X : Cx) (W : WX) (V : List Nat) (es : List Expr) (f : Env → Rs Nat) : Prop := ∃ ts, PJ X es ts ∧ ∀ Γ σ H0 H acc (Q : Str → Hp → Prop), Shr X.K V H0 Γ σ → Same H0 H → acc.length ≤ 10000 → Post X.K W σ (fun n _ H => ∀ acc' : Str, acc'.length ≤ acc.length + n → Q acc' H) H0 H (f Γ) → tJs ts acc σ H Q
theorem j_nil : JX X W V [] (fun _ => .ok 0) := ⟨_, .nil, fun Γ σ H0 H acc Q sh sm ha q => q.pure sm acc (Nat.le_refl _)⟩
end
end Lh.P
set_option Elab.async false
set_option linter.all false
set_option maxRecDepth 100000
set_option maxHeartbeats 4000000
/-! What the texts use besides. -/
namespace Lh.P
open PySem PySem.Spec PyProof.Rows L2 SX
abbrev eV (i : Nat) : Env → Rs PV := fun Γ => lk Γ i
abbrev eC (p : PV) : Env → Rs PV := fun _ => .ok p
abbrev eTup (f : Env → Rs (List PV)) : Env → Rs PV := fun Γ => (f Γ).bind pTup
abbrev eLst (f : Env → Rs (List PV)) : Env → Rs PV := fun Γ => (f Γ).bind pLst
abbrev iAny (f : Env → Rs PV) : Env → Rs (List PV) := fun Γ => (f Γ).bind pItems
abbrev iR1 (f : Env → Rs (List PV)) : Env → Rs (List PV) := fun Γ => (f Γ).bind pRg1
abbrev iR2 (f : Env → Rs (List PV)) : Env → Rs (List PV) := fun Γ => (f Γ).bind pRg2
abbrev sNo : Env → Rs (Option Int) := fun _ => .ok none
abbrev sSo (f : Env → Rs PV) : Env → Rs (Option Int) := fun Γ => (f Γ).bind pSome
abbrev iSub : PV → PV → Rs PV := i2 fun i j => .int (i - j)
abbrev iLt : PV → PV → Rs PV := i2 fun i j => .bl (decide (i < j))
abbrev iGt : PV → PV → Rs PV := i2 fun i j => .bl (decide (j < i))
abbrev iLe : PV → PV → Rs PV := i2 fun i j => .bl (decide (i ≤ j))
abbrev iGe : PV → PV → Rs PV := i2 fun i j => .bl (decide (j ≤ i))
abbrev sLe : PV → PV → Rs PV := s2 fun i j => .bl (!decide (j < i))
/-- the built-ins that a text names are those of the boot -/
structure Bl (mg : Str → Option Value) : Prop where
  len : mg "len" = none
  range : mg "range" = none
  int : mg "int" = none
  isinstance : mg "isinstance" = none
  bool : mg "bool" = none
  str : mg "str" = none
  list : mg "list" = none
  tuple : mg "tuple" = none
  all : mg "all" = none
  any : mg "any" = none
  set : mg "set" = none
  max : mg "max" = none
  min : mg "min" = none
  sum : mg "sum" = none
  zip : mg "zip" = none
  sorted : mg "sorted" = none
  enumerate : mg "enumerate" = none
theorem hu65 {k : Nat} {A : Around} (r : Room k A) : A.units + 65 < cLine := by have := r.un; omega
section
variable {X : Cx} {W : WX} {M : Md} {V V2 O O' O1 T vs : List Nat} {e a b tg iter c el : Expr} {es ifs : List Expr} {st : Stmt} {pos : Pos}
/-! ### texts -/
def isS : PV → Bool
  | .str _ => true
  | _ => false
def bM1 (f g : Env → Rs PV) (k : PV → PV → Rs PV) : Env → Rs PV := fun Γ => (f Γ).bind fun x => if isS x = true then (g Γ).bind fun y => k x y else .bad
/-- a method of texts with one argument -/
def SmP (X : Cx) (id : String) (k : PV → PV → Rs PV) : Prop := ∃ r, MtR X id r ∧ ∀ (W : WX) σ s y v w H0 H Q, v = .str (S s) → Rep X.K H0 y w → Same H0 H → Post X.K W σ (gE X.K Q) H0 H (k (.str s) y) → r v [w] H Q
theorem x_m1 {id : String} {name : Str} {k : PV → PV → Rs PV} {f g : Env → Rs PV} {apos : Pos} (slot : Slot "str" name id) (ty : typeOf (.builtin id) = pure (.type "method_descriptor")) (hm : SmP X id k) (ho : EX X W V a f) (he : EX X W V e g) (hs : starEach [e] X.env = [(false, eval e X.env)] := by rfl) (hbase : attributeBase a name X.env (eval a X.env) = eval a X.env := by rfl) (hline : (apos.endLine == pos.line) = true := by rfl) :
    EX X W V (.Call (.Attribute a name apos) [e] [] pos) (bM1 f g k) := fun Γ σ H0 H Q sh sm q => by
  obtain ⟨r, mr, hr⟩ := hm
  refine PE.to (pe_m1 slot ty mr pe_of pe_of hs hbase hline) (ho Γ σ H0 H _ sh sm (q.step.mono fun x H1 H2 g1 q1 v rv => ?_))
  cases x with
  | str s =>
    have q1 : Post X.K W σ (gE X.K Q) H1 H2 ((g Γ).bind fun y => k (.str s) y) := q1
    exact ⟨⟨S s, rv⟩, he Γ σ H1 H2 _ (sh.mono g1.a) g1.c (q1.step.mono fun y H3 H4 g2 q2 w r2 => hr W σ s y v w H3 H4 Q rv r2 g2.c q2)⟩
  | _ => exact False.elim q1
def pCntS : PV → PV → Rs PV
  | .str s, .str [c] => .ok (.int (s.count c))
  | _, _ => .bad
theorem m_cntS : SmP X "str.count" pCntS := ⟨_, L2.mt_count, fun W σ s y v w H0 H Q hv rw_ sm q => by
  match y, q with
  | .str [c], q => exact ⟨S s, S [c], hv, by rw [show w = .str (S [c]) from rw_], by rw [count_S]; exact pV sm q rfl⟩⟩
def asStrs : List PV → Option (List (List Nat))
  | [] => some []
  | .str s :: r => (asStrs r).map (s :: ·)
  | _ :: _ => none
theorem asStrs_eq : ∀ {xs : List PV} {ns : List (List Nat)}, asStrs xs = some ns → xs = ns.map PV.str
  | [], ns, h => by cases h; rfl
  | .str i :: r, ns, h => by
    unfold asStrs at h
    cases hr : asStrs r with
    | none => rw [hr] at h; cases h
    | some m => rw [hr] at h; cases h; rw [asStrs_eq hr]; rfl
  | .non :: _, _, h => by cases h
  | .int _ :: _, _, h => by cases h
  | .bl _ :: _, _, h => by cases h
  | .tup _ :: _, _, h => by cases h
  | .lst _ :: _, _, h => by cases h
  | .ins _ _ :: _, _, h => by cases h
  | .scr _ :: _, _, h => by cases h
  | .exr _ _ _ _ :: _, _, h => by cases h
@[simp] theorem asStrs_map (ns : List (List Nat)) : asStrs (ns.map PV.str) = some ns := by
  induction ns with
  | nil => rfl
  | cons a l ih => rw [List.map_cons]; unfold asStrs; rw [ih]; rfl
theorem Reps.strs {K : PySem.W.Frag} {H : Hp} : ∀ {ns : List (List Nat)} {vs : List L2.V}, Reps K H (ns.map PV.str) vs → vs = (ns.map S).map L2.V.str
  | [], [], _ => rfl
  | [], _ :: _, h => False.elim h
  | _ :: _, [], h => False.elim h
  | n :: ns, v :: vs, h => by
    obtain ⟨h1, h2⟩ := h
    have h1 : v = L2.V.str (S n) := h1
    rw [List.map_cons, List.map_cons, Reps.strs h2, h1]
def pJoin : PV → PV → Rs PV
  | .str sep, .lst xs => match asStrs xs with
    | some ys => if (ys.map (·.length)).sum + ys.length * sep.length ≤ 100000 then .ok (.str (TL.joinL sep ys)) else .bad
    | none => .bad
  | _, _ => .bad
theorem m_join : SmP X "str.join" pJoin := ⟨_, L2.mt_join, fun W σ s y v w H0 H Q hv rw_ sm q => by
  cases y with
  | lst xs =>
    have q : Post X.K W σ (gE X.K Q) H0 H (match asStrs xs with
      | some ys => if (ys.map (·.length)).sum + ys.length * s.length ≤ 100000 then .ok (.str (TL.joinL s ys)) else .bad
      | none => .bad) := q
    cases hy : asStrs xs with
    | none => rw [hy] at q; exact False.elim q
    | some ys =>
      rw [hy] at q
      obtain ⟨hl, q⟩ := post_if q
      obtain ⟨a, ws, rfl, ha, rs⟩ := rw_
      rw [asStrs_eq hy] at rs
      rw [rs.strs] at ha
      refine ⟨S s, a, ys.map S, hv, rfl, .inl (SqL.of (sm _ _ ha)), ?_, ?_⟩
      · rw [List.map_map, List.length_map, S_len]
        have e : (ys.map ((fun x => x.length) ∘ S)) = ys.map (·.length) := by
          apply List.map_congr_left
          intro x _
          exact S_len x
        rw [e]
        omega
      · rw [join_S]
        exact pV sm q rfl
  | _ => exact False.elim q⟩
/-! ### enumerate -/
def enP (k : Nat) : List PV → List PV
  | [] => []
  | p :: ps => .tup [.int (k : Int), p] :: enP (k + 1) ps
theorem enP_len : ∀ (k : Nat) (ps : List PV), (enP k ps).length = ps.length
  | _, [] => rfl
  | k, _ :: ps => by show (enP (k + 1) ps).length + 1 = ps.length + 1; rw [enP_len]
theorem enP_get : ∀ (k : Nat) (ps : List PV) (i : Nat) (p : PV), (enP k ps)[i]? = some p → ∃ q, ps[i]? = some q ∧ p = .tup [.int ((k + i : Nat) : Int), q]
  | _, [], i, p, h => by simp [enP] at h
  | k, q :: ps, 0, p, h => by
    have h : some (PV.tup [.int (k : Int), q]) = some p := h
    cases h
    exact ⟨q, rfl, rfl⟩
  | k, q :: ps, i + 1, p, h => by
    obtain ⟨r, h1, h2⟩ := enP_get (k + 1) ps i p h
    exact ⟨r, h1, by rw [h2, show k + 1 + i = k + (i + 1) by omega]⟩
theorem wk_enum {K : PySem.W.Frag} {H0 : Hp} {t : Addr} {ps : List PV} {vs : List L2.V} (h : H0 t = some (.lst vs)) (rs : Reps K H0 ps vs) : Wk K H0 (Ite K t) (enP 0 ps) where
  go := fun i H hi s => by
    rw [enP_len] at hi
    exact ⟨vs, vs[i]'(by rw [rs.len]; exact hi), SqL.of (s _ _ h), List.getElem?_eq_getElem _⟩
  stop := fun H s => ⟨vs, SqL.of (s _ _ h), by rw [enP_len]; exact Nat.le_of_eq rs.len⟩
  yld := fun i H x H' hi s ⟨T, y, e1, n, e2, e3⟩ H1 s1 s2 => by
    subst e1 e2
    have g := Gr.new (o := .tup [.int (i : Nat), y]) s2 n
    refine ⟨_, g, fun p hp => ?_⟩
    obtain ⟨q, hq, rfl⟩ := enP_get 0 ps i p hp
    obtain ⟨v, h1, h2⟩ := rs.get hq
    rw [e3 vs (SqL.of (s _ _ h))] at h1
    cases h1
    exact ⟨T, _, rfl, upd_same, by rw [Nat.zero_add]; rfl, Rep.mono g.a _ _ (Rep.mono s1 _ _ h2), trivial⟩
theorem wk_enumT {K : PySem.W.Frag} {H0 : Hp} {t : Addr} {ps : List PV} {vs : List L2.V} (h : Rd H0 t (.tup vs)) (rs : Reps K H0 ps vs) : Wk K H0 (ItE K t) (enP 0 ps) where
  go := fun i H hi s => by
    rw [enP_len] at hi
    exact ⟨vs, vs[i]'(by rw [rs.len]; exact hi), .inl (Rd.same h s), List.getElem?_eq_getElem _⟩
  stop := fun H s => ⟨vs, .inl (Rd.same h s), by rw [enP_len]; exact rs.len⟩
  yld := fun i H x H' hi s ⟨T, y, e1, n, e2, e3⟩ H1 s1 s2 => by
    subst e1 e2
    have g := Gr.new (o := .tup [.int (i : Nat), y]) s2 n
    refine ⟨_, g, fun p hp => ?_⟩
    obtain ⟨q, hq, rfl⟩ := enP_get 0 ps i p hp
    obtain ⟨v, h1, h2⟩ := rs.get hq
    rw [e3 vs (.inl (Rd.same h s))] at h1
    cases h1
    exact ⟨T, _, rfl, upd_same, by rw [Nat.zero_add]; rfl, Rep.mono g.a _ _ (Rep.mono s1 _ _ h2), trivial⟩
def pEnum : List PV → Rs (List PV)
  | [.lst ps] => .ok (enP 0 ps)
  | [.tup ps] => .ok (enP 0 ps)
  | [.tun ps] => .ok (enP 0 ps)
  | _ => .bad
abbrev iEn (f : Env → Rs (List PV)) : Env → Rs (List PV) := fun Γ => (f Γ).bind pEnum
theorem ix_enum {f : Env → Rs (List PV)} {p tpos : Pos} {elts : List Expr} {kk : Nat} (ha : AX X W V [a] f) (hm : X.mg "enumerate" = none) (hg : Gl X "enumerate" := by rfl) (hs : starEach [a] X.env = [(false, eval a X.env)] := by rfl) : IX X W V (.Tuple elts kk tpos) (.Call (.Name "enumerate" p) [a] [] pos) (iEn f) :=
  ⟨_, Lh.P.pi_or (pi_enum hg hm pa_of hs) (pi_enumT hg hm pa_of hs), fun Γ σ H0 H R sh sm q => by
    have q : Post X.K W σ (fun ps H0' H' => ∀ J, Wk X.K H0' J ps → R J H') H0 H ((f Γ).bind pEnum) := q
    cases hf : f Γ with
    | bad => rw [hf] at q; exact False.elim q
    | ex C fs =>
      refine .inl (ha Γ σ H0 H _ sh sm ?_)
      rw [hf] at q ⊢
      exact q
    | ok qs =>
      rw [hf] at q
      match qs, hf, q with
      | [.lst ps], hf, q =>
        refine .inl (ha Γ σ H0 H _ sh sm ?_)
        rw [hf]
        intro H0' H' g v r0
        obtain ⟨v, rfl, r⟩ := reps1 r0
        obtain ⟨a, vs, rfl, ha, rs⟩ := r
        exact ⟨a, vs, rfl, SqL.of (g.c _ _ ha), q H0' H' g _ (wk_enum ha rs)⟩
      | [.tup ps], hf, q =>
        refine .inr (ha Γ σ H0 H _ sh sm ?_)
        rw [hf]
        intro H0' H' g v r0
        obtain ⟨v, rfl, r⟩ := reps1 r0
        obtain ⟨a, vs, rfl, ha, rs⟩ := r
        exact ⟨a, vs, rfl, SqT.of (g.c _ _ ha), q H0' H' g _ (wk_enumT (.inl ha) rs)⟩
      | [.tun ps], hf, q =>
        refine .inr (ha Γ σ H0 H _ sh sm ?_)
        rw [hf]
        intro H0' H' g v r0
        obtain ⟨v, rfl, r⟩ := reps1 r0
        obtain ⟨a, vs, rfl, ⟨o, ha, _⟩, rs⟩ := r
        have ha : Rd H0' a (.tup vs) := .inr ⟨o, ha⟩
        exact ⟨a, vs, rfl, .inl (Rd.same ha g.c), q H0' H' g _ (wk_enumT ha rs)⟩⟩
/-! ### name = [..] -/
/-- the reading of a list comprehension that is stored at once -/
theorem lc_ix {scope : Scope} {t : TG} {tt : TT} {te : TE} {fi : Env → Rs (List PV)} {g : PV → Env → Option Env} {fc : Env → Rs Bool} {fe : Env → Rs PV} (hi : IX X W V tg iter fi) (gt : GT X.K vs t g) (ht : BlkT X V2 scope ifs tt fc) (he : BlkE X V2 scope el te fe) (hV : ∀ j ∈ V2, j ∈ V) :
    ∃ wi, PI X tg iter wi ∧ OT X W V (tLc wi t tt te vs) (bLc vs fi g fc fe) := by
  obtain ⟨wi, pi, hwi⟩ := hi
  exact ⟨wi, pi, lc_ot hwi gt ht he hV⟩
section
variable {i : Nat} {y : Str} {py spos : Pos} {scope : Scope} {own : List (Str × Nat)} {t : TG} {tt : TT} {te : TE} {fi : Env → Rs (List PV)} {g : PV → Env → Option Env} {fc : Env → Rs Bool} {fe : Env → Rs PV}
theorem s_setLc (hc : X.calm = true) (hN : X.N.Nodup) (hy : X.N[i]? = some y) (hyl : X.env.scope.names.lookup y = some .local) (hsw : swapsWith (.ListComp el [⟨tg, iter, ifs, 0⟩] scope pos) (some (.Name y py)) spos.line X.env = pure true)
    (hi : IX X W V tg iter fi) (bk : BlkOk X.N X.env.scope scope own) (hg : ∀ (s : Shared) (H : Hp) (C : Addr) (cl : List (Str × Addr)) (fp : List Addr), PG (X.blk s H scope (compEnvC scope cl C X.env) fp) tg t) (gt : GT X.K (own.map (·.2)) t g)
    (ht : BlkT X V2 scope ifs tt fc) (he : BlkE X V2 scope el te fe) (hV : ∀ j ∈ V2, j ∈ V) (hO : ∀ j ∈ O1, j ∈ O ∧ j ∉ V ∧ j ≠ i) (hI : ∀ j ∈ M.IO, j ∈ O1) (ok : OkO M O) (hs : ∀ x, foldedSetIterable iter X.env x = pure x := by intro _; rfl) :
    SX X W M O (i :: O1) (.Assign [.Name y py] (.ListComp el [⟨tg, iter, ifs, 0⟩] scope pos) spos) (dSet i (bLc (own.map (·.2)) fi g fc fe)) := by
  obtain ⟨wi, pi, ot⟩ := lc_ix hi gt ht he hV
  exact s_setO (ps_setLc hc hN hy hyl hsw pi bk hg ht.1 he.1 hs) ot hO hI ok
theorem s_setLcR (hc : X.calm = true) (hN : X.N.Nodup) (hy : X.N[i]? = some y) (hyl : X.env.scope.names.lookup y = some .local) (hsw : swapsWith (.ListComp el [⟨tg, iter, ifs, 0⟩] scope pos) (some (.Name y py)) spos.line X.env = pure true)
    (hi : IX X W V tg iter fi) (bk : BlkOk X.N X.env.scope scope own) (hg : ∀ (s : Shared) (H : Hp) (C : Addr) (cl : List (Str × Addr)) (fp : List Addr), PG (X.blk s H scope (compEnvC scope cl C X.env) fp) tg t) (gt : GT X.K (own.map (·.2)) t g)
    (ht : BlkT X V2 scope ifs tt fc) (he : BlkE X V2 scope el te fe) (hV : ∀ j ∈ V2, j ∈ V) (hO : ∀ j ∈ O1, j ∈ O ∧ j ≠ i) (hI : ∀ j ∈ M.IO, j ∈ O1) (ok : OkO M O) (hs : ∀ x, foldedSetIterable iter X.env x = pure x := by intro _; rfl) :
    SX X W M O (i :: O1) (.Assign [.Name y py] (.ListComp el [⟨tg, iter, ifs, 0⟩] scope pos) spos) (dSetOR V O i (bLc (own.map (·.2)) fi g fc fe)) := by
  obtain ⟨wi, pi, ot⟩ := lc_ix hi gt ht he hV
  exact s_setOR (ps_setLc hc hN hy hyl hsw pi bk hg ht.1 he.1 hs) ot hO hI ok
/-- the slot is not to be changed later -/
theorem SX.forget {f : Env → Out} (h : SX X W M O (i :: O1) st f) (hI : ∀ j ∈ M.IO, j ∈ O1) : SX X W M O O1 st f := fun Z Γ σ H0 H D io E p => h Z Γ σ H0 H D io E (p.sub io (fun j hj => List.mem_cons_of_mem _ hj) hI)
end
end
end Lh.P
set_option Elab.async false
set_option linter.all false
set_option maxRecDepth 100000
set_option maxHeartbeats 4000000
/-! The classes and errors of the program, as a text's head tells them. -/
namespace Lh.P
open PySem PySem.Spec PyProof.Rows L2 _root_.SX
/-- where the classes stand -/
structure Ad where
  a : Str → Addr
  /-- whether an error of the class at C is caught by the class of this name -/
  isa : Addr → Str → Option Bool
  /-- whether it is an instance of one of these -/
  ins : Addr → List Str → Option Bool
  /-- whether its errors keep a field of this name that no class hides -/
  fld : Addr → Str → Bool
instance : CoeFun Ad fun _ => Str → Addr := ⟨Ad.a⟩
structure IsHouse (K : PySem.W.Frag) (mg : Str → Option Value) (C : Addr) : Prop where
  cl : Cls K C
  rooms : NoAttr K C "rooms"
  doors : NoAttr K C "doors"
  trades : NoAttr K C "trades"
  ins : C8.InsC K C
  g : mg "House" = some (.ref C)
structure IsStanding (K : PySem.W.Frag) (mg : Str → Option Value) (C : Addr) : Prop where
  cl : Cls K C
  hands : NoAttr K C "hands"
  places : NoAttr K C "places"
  ins : C8.InsC K C
  g : mg "Standing" = some (.ref C)
structure IsRun (K : PySem.W.Frag) (mg : Str → Option Value) (C : Addr) : Prop where
  cl : Cls K C
  deeds : NoAttr K C "deeds"
  ins : C8.InsC K C
  g : mg "Run" = some (.ref C)
section
variable {X : Cx} {W : WX} {V : List Nat} {x : Str} {pos : Pos}
theorem x_gc {z : Str} (s : List Nat) (hz : z = S s) (h : ∃ u, X.mg x = some u ∧ RelV (.str z) u) (hg : Gl X x := by rfl) (hd : (x == ("__debug__" : Str)) = false := by decide) : EX X W V (.Name x pos) (eC (.str s)) :=
  x_c (C8.pe_gc hg h hd) fun _ => by rw [hz]; rfl
end
end Lh.P
set_option Elab.async false
set_option linter.all false
set_option maxRecDepth 100000
set_option maxHeartbeats 4000000
namespace Lh.P
open PySem PySem.Spec PyProof.Rows L2
def top (i : Nat) : Stmt := PySem.Challenge.pw_lanternhouse_k32_coins.main.body.getD i (.Pass ⟨0, 0, 0, 0⟩)
end Lh.P
set_option Elab.async false
set_option linter.all false
set_option maxRecDepth 100000
set_option maxHeartbeats 0
namespace Lh.P.Hd
open PySem PySem.W PySem.Calls PyProof.Rows
open L2
abbrev R : OpenRow := OpenLaw.row PySem.Challenge.rw_lanternhouse_k32_coins
abbrev qv : Program := view R.prog [0, 1, 17]
def names : List PySem.Str := ["common_divisor", "least_amounts", "sure_amount", "pay", "_law_cell", "_law_row", "_law_is_integer", "_law_integers", "_law_coins", "_law_measure", "_law_payable", "_law_handed", "_law_pays"]
def fn : List He.DefD := [⟨("common_divisor", none), "common_divisor", "common_divisor", defArgs (top 3), defBody (top 3), defScope (top 3), [], []⟩,
  ⟨("least_amounts", none), "least_amounts", "least_amounts", defArgs (top 4), defBody (top 4), defScope (top 4), [], []⟩,
  ⟨("sure_amount", none), "sure_amount", "sure_amount", defArgs (top 5), defBody (top 5), defScope (top 5), [], []⟩,
  ⟨("pay", none), "pay", "pay", defArgs (top 6), defBody (top 6), defScope (top 6), [], []⟩,
  ⟨("_law_cell", none), "_law_cell", "_law_cell", defArgs (top 8), defBody (top 8), defScope (top 8), [], []⟩,
  ⟨("_law_row", none), "_law_row", "_law_row", defArgs (top 9), defBody (top 9), defScope (top 9), [], []⟩,
  ⟨("_law_is_integer", none), "_law_is_integer", "_law_is_integer", defArgs (top 10), defBody (top 10), defScope (top 10), [], []⟩,
  ⟨("_law_integers", none), "_law_integers", "_law_integers", defArgs (top 11), defBody (top 11), defScope (top 11), [], []⟩,
  ⟨("_law_coins", none), "_law_coins", "_law_coins", defArgs (top 12), defBody (top 12), defScope (top 12), [], []⟩,
  ⟨("_law_measure", none), "_law_measure", "_law_measure", defArgs (top 13), defBody (top 13), defScope (top 13), [], []⟩,
  ⟨("_law_payable", none), "_law_payable", "_law_payable", defArgs (top 14), defBody (top 14), defScope (top 14), [], []⟩,
  ⟨("_law_handed", none), "_law_handed", "_law_handed", defArgs (top 15), defBody (top 15), defScope (top 15), [], []⟩,
  ⟨("_law_pays", none), "_law_pays", "_law_pays", defArgs (top 16), defBody (top 16), defScope (top 16), [], []⟩,
  ⟨("law", none), "law", "law", defArgs (top 17), defBody (top 17), defScope (top 17), [], []⟩]
def fa : List He.Fa := [.glo "common_divisor", .glo "least_amounts", .glo "sure_amount", .glo "pay", .glo "_law_cell", .glo "_law_row", .glo "_law_is_integer", .glo "_law_integers", .glo "_law_coins", .glo "_law_measure", .glo "_law_payable", .glo "_law_handed", .glo "_law_pays", .glo "law", .free "len", .free "range", .free "int", .free "isinstance", .free "bool", .free "str", .free "list", .free "tuple", .free "all", .free "any", .free "set", .free "max", .free "min", .free "sum", .free "zip", .free "sorted", .free "enumerate"]
def exB (K : PySem.W.Frag) : Bool := He.eqO (PySem.W.nsIn K mainGlobals "heappop") (some (some (.builtin "_heapq.heappop"))) && He.eqO (PySem.W.nsIn K mainGlobals "heappush") (some (some (.builtin "_heapq.heappush"))) && He.eqO (PySem.W.nsIn K mainGlobals "gcd") (some (some (.builtin "math.gcd")))
abbrev hk : PySem.W.Hook := He.hookX 5 fa fn [] [] exB
def ob (s : PySem.W.SharedT) : He.AlX := He.obsX 5 fa fn [] [] exB (HandSHeadRun.getT s)
theorem ob_eq (s : PySem.W.SharedT) : ob s = hk.obs s.abs := He.obsX_eq (HandSHeadRun.getT_eq s)
theorem run (w : World) : HandSHeadRun.RunEqI R qv hk ob 60000 names w := by
  unfold HandSHeadRun.RunEqI
  kernel_rfl
end Lh.P.Hd
set_option Elab.async false
set_option linter.all false
set_option maxRecDepth 100000
/-! zip of two rows, each a list or a tuple: an instance of LhTurns. -/
namespace Lh
open PySem PySem.Spec PyProof.Rows L2
/-- a new pair at each turn, until one of the rows ends -/
def ItZ (K : PySem.W.Frag) (k l : Bool) (a b : Addr) : It where
  go i H := ∃ (xs ys : List V) (x y : V), Row K k H a xs ∧ Row K l H b ys ∧ xs[i]? = some x ∧ ys[i]? = some y
  yld i H v H' := ∃ T x y, v = .ref T ∧ H T = none ∧ H' = upd H T (.tup [x, y]) ∧ (∀ xs, Row K k H a xs → xs[i]? = some x) ∧ ∀ ys, Row K l H b ys → ys[i]? = some y
  stop i H := ∃ (xs ys : List V), Row K k H a xs ∧ Row K l H b ys ∧ i = min xs.length ys.length
section
variable {P : Program} {w : World} {K : PySem.W.Frag} {es : List Expr} {kk : Nat} {tp : Pos} {k l : Bool} {a b z TI TO i1 i2 : Addr}
/-- how a zip stands before its i-th turn -/
def ZipAt (k l : Bool) (a b z TI TO i1 i2 : Addr) (i : Nat) (h : Heap) : Prop :=
  IsZip h z TI TO .none ∧ IsTupOf2 h TI (.ref i1) (.ref i2) ∧ (∃ u v, IsTupOf2 h TO u v) ∧ RowAt k h i1 a i ∧ RowAt l h i2 b i
theorem turn_zip (S : ZipSep2 z TI TO i1 i2 [i1, a] [i2, b]) (ha : a ≠ i1) (hb : b ≠ i2) : Turn P w K (.Tuple es kk tp) (ItZ K k l a b) [z, TI, TO, i1, i2] z (ZipAt k l a b z TI TO i1 i2) where
  mem := .head _
  obj i h st c hc := by
    obtain ⟨hz, hI, ⟨u, v, hO⟩, h1, h2⟩ := st
    have five : c = z ∨ c = TI ∨ c = TO ∨ c = i1 ∨ c = i2 := by simpa using hc
    rcases five with rfl | rfl | rfl | rfl | rfl
    · exact ⟨_, hz, nofun⟩
    · exact ⟨_, hI, nofun⟩
    · exact ⟨_, hO, nofun⟩
    · exact row_cell h1
    · exact row_cell h2
  keep i h h' st kp := by
    obtain ⟨hz, hI, ⟨u, v, hO⟩, h1, h2⟩ := st
    exact ⟨kp z (by simp) _ hz, kp TI (by simp) _ hI, ⟨u, v, kp TO (by simp) _ hO⟩, row_keep (fun o e => kp i1 (by simp) o e) h1, row_keep (fun o e => kp i2 (by simp) o e) h2⟩
  item X hP hw hK hc i pins s σ H E iv ok st hg := by
    cases hP; cases hw; cases hK
    obtain ⟨xs, ys, x, y, qx, qy, hx, hy⟩ := hg
    obtain ⟨us, ru, pu, _⟩ := row_read iv qx
    obtain ⟨vs, rv, pv, _⟩ := row_read iv qy
    have lt : i < min us.toArray.size vs.toArray.size := by
      have := (List.getElem?_eq_some_iff.mp hx).1
      have := (List.getElem?_eq_some_iff.mp hy).1
      have := ru.length
      have := rv.length
      simp only [List.size_toArray]; omega
    obtain ⟨hz, hI, hO, h1, h2⟩ := st
    refine pair_turn (x := x) (y := y) (E := E) (WalksT.zipD2 S (row_draws (A := X.A.in1) (iv.ok.hd hc) ha us.toArray k) (row_draws (A := X.A.in1) (iv.ok.hd hc) hb vs.toArray l)) iv
      (fun c hc => ok c (by simp only [List.mem_cons, List.not_mem_nil, or_false] at hc ⊢; rcases hc with h | h | h | h <;> simp [h])) lt ⟨hz, hI, hO, ⟨h1, pu⟩, ⟨h2, pv⟩⟩
      (fun vals ⟨u, v, hu, hv, ev⟩ => ⟨u, v, ev, draw_rel ru hx hu, draw_rel rv hy hv⟩)
      fun T s2 n far iv2 st2 => ⟨.ref T, _, iv2, (show Value.ref T = Value.ref T from rfl), ⟨T, x, y, rfl, n, rfl, fun zs h => by rw [row_one iv h qx]; exact hx, fun zs h => by rw [row_one iv h qy]; exact hy⟩,
        ⟨st2.1, st2.2.1, st2.2.2.1, st2.2.2.2.1.1, st2.2.2.2.2.1⟩, fun c hc => ?_⟩
    have ne : c ≠ T := fun e => by
      have five : c = z ∨ c = TI ∨ c = TO ∨ c = i1 ∨ c = i2 := by simpa using hc
      rcases five with h | h | h | h | h
      · exact far.1 (by simp [← e, h])
      · exact absurd (Heap.lt_size hI) (by rw [← h, e]; exact Nat.not_lt.mpr far.2)
      · exact far.1 (by simp [← e, h])
      · exact far.1 (by simp [← e, h])
      · exact far.1 (by simp [← e, h])
    rw [upd_ne ne]
    exact (ok c hc).1
  done X hP hw hK hc i pins s σ H E iv ok st hg := by
    cases hP; cases hw; cases hK
    obtain ⟨xs, ys, qx, qy, rfl⟩ := hg
    obtain ⟨us, ru, pu, _⟩ := row_read iv qx
    obtain ⟨vs, rv, pv, _⟩ := row_read iv qy
    obtain ⟨hz, hI, hO, h1, h2⟩ := st
    have sz : min xs.length ys.length = min us.toArray.size vs.toArray.size := by
      rw [List.size_toArray, List.size_toArray, ru.length, rv.length]
    rw [sz] at h1 h2
    exact pair_done (WalksT.zipD2 S (row_draws (A := X.A.in1) (iv.ok.hd hc) ha us.toArray k) (row_draws (A := X.A.in1) (iv.ok.hd hc) hb vs.toArray l)) iv
      (fun c hc => ok c (by simp only [List.mem_cons, List.not_mem_nil, or_false] at hc ⊢; rcases hc with h | h | h | h <;> simp [h])) ⟨hz, hI, hO, ⟨h1, pu⟩, ⟨h2, pv⟩⟩
  self A i s Q E st h := wpAny_pyIter_zip st.1 h
end
def iZip (K : PySem.W.Frag) (ta : TA) : TI := fun σ H R => ta σ H fun vs H1 => ∃ a b k l xs ys, vs = [.ref a, .ref b] ∧ Row K k H1 a xs ∧ Row K l H1 b ys ∧ R (ItZ K k l a b) H1
/-- the iterator of zip(v, w) begins -/
theorem pi_zip {X : Cx} {e e2 : Expr} {ta : TA} {p pos tp : Pos} {es : List Expr} {kk : Nat} (hg : Gl X "zip") (hm : X.mg "zip" = none) (ha : PA X [e, e2] ta)
    (st1 : starEach [e, e2] X.env = (false, eval e X.env) :: starEach [e2] X.env := by rfl) (st2 : (backTo pos (starEach [e2] X.env)).any (·.1) = false := by rfl) :
    PI X (.Tuple es kk tp) (.Call (.Name "zip" p) [e, e2] [] pos) (iZip X.K ta) where
  run pins s σ H R I h := by
    refine Call_ (ld_blt I hg hm PyProof.Rows.boot_zip (PyProof.Rows.callWith_type1 (thn (ha.run pos pins s σ H _ I h) fun us s1 ⟨vs, H1, I1, r1, a, b, k, l, xs, ys, ev, qa, qb, hR⟩ => ?_) st1 st2))
    subst ev
    cases r1 with | cons ra rr => cases rr with | cons rb rr =>
    cases rr; cases ra; cases rb
    obtain ⟨us, ru, pu, la⟩ := row_read I1 qa
    obtain ⟨ws, rw_, pw, lb⟩ := row_read I1 qb
    have lt1 : ∀ c ∈ [a], c < s1.heap.objs.size := fun c hc => by rw [List.mem_singleton.mp hc]; exact la
    have lt2 : ∀ c ∈ [b], c < s1.heap.objs.size := fun c hc => by rw [List.mem_singleton.mp hc]; exact lb
    refine zip_begins2 (row_begins k a us.toArray) (row_begins l b ws.toArray) pu pw fun h' hz hI hO h1 h2 _ kp => wpAny_pyIter_zip hz ?_
    have young : ∀ c ∈ [s1.heap.objs.size + 4, s1.heap.objs.size + 2, s1.heap.objs.size + 3, s1.heap.objs.size, s1.heap.objs.size + 1], FpOk X pins H1 c := fun c hc => by
      have le : s1.heap.objs.size ≤ c := by
        simp only [List.mem_cons, List.not_mem_nil, or_false] at hc
        rcases hc with z | z | z | z | z <;> rw [z] <;> first | exact Nat.le_add_right _ _ | exact Nat.le_refl _
      exact I1.fpOk le (I1.hok.fresh le)
    exact ⟨_, _, _, _, H1, rfl, I1.kept (t' := s1.toks) kp, turn_zip (zip_sep2 lt1 lt2) (Nat.ne_of_lt la) (Nat.ne_of_lt (Nat.lt_succ_of_lt lb)), ⟨hz, hI, ⟨_, _, hO⟩, row_at0 h1, row_at0 h2⟩, young, hR⟩
end Lh
set_option Elab.async false
set_option linter.all false
set_option maxRecDepth 100000
set_option maxHeartbeats 4000000
/-! zip, texts for errors. -/
namespace Lh.P
open PySem PySem.Spec PyProof.Rows L2 _root_.SX
section
variable {X : Cx} {W : WX} {M : Md} {V V2 O O' O1 T vs : List Nat} {e e2 a b tg iter c el : Expr} {es ifs : List Expr} {st : Stmt} {pos : Pos}
def zpP (xs ys : List PV) : List PV := (xs.zip ys).map fun q => .tup [q.1, q.2]
theorem zpP_len (xs ys : List PV) : (zpP xs ys).length = min xs.length ys.length := by unfold zpP; rw [List.length_map, List.length_zip]
theorem zpP_get {xs ys : List PV} {i : Nat} {p : PV} (h : (zpP xs ys)[i]? = some p) : ∃ x y, xs[i]? = some x ∧ ys[i]? = some y ∧ p = .tup [x, y] := by
  unfold zpP at h
  rw [List.getElem?_map] at h
  obtain ⟨⟨x, y⟩, hq, rfl⟩ := Option.map_eq_some_iff.mp h
  rw [List.getElem?_zip_eq_some] at hq
  exact ⟨x, y, hq.1, hq.2, rfl⟩
section
variable {K : PySem.W.Frag} {H0 : Hp}
/-- what a row of values stands as -/
theorem row_of {k : Bool} {a : Addr} {vs : List L2.V} (h : H0 a = some (cond k (.lst vs) (.tup vs))) : ∀ H, Same H0 H → Row K k H a vs := by
  intro H s
  cases k
  · exact SqT.of (s _ _ h)
  · exact SqL.of (s _ _ h)
theorem get_lt {vs : List L2.V} {ps : List PV} {i : Nat} (r : Reps K H0 ps vs) (h : i < ps.length) : vs[i]? = some (vs[i]'(by rw [r.len]; exact h)) := List.getElem?_eq_getElem _
theorem wk_zip {k l : Bool} {a b : Addr} {ps qs : List PV} {vs ws : List L2.V} (ha : ∀ H, Same H0 H → Row K k H a vs) (hb : ∀ H, Same H0 H → Row K l H b ws) (ra : Reps K H0 ps vs) (rb : Reps K H0 qs ws) : Wk K H0 (ItZ K k l a b) (zpP ps qs) where
  go := fun i H hi s => by rw [zpP_len] at hi; exact ⟨vs, ws, _, _, ha H s, hb H s, get_lt ra (by omega), get_lt rb (by omega)⟩
  stop := fun H s => ⟨vs, ws, ha H s, hb H s, by rw [zpP_len, ra.len, rb.len]⟩
  yld := fun i H v H' hi s ⟨T, x, y, e1, n, e2, ex, ey⟩ H1 s1 s2 => by
    subst e1 e2
    have g := Gr.new (o := .tup [x, y]) s2 n
    refine ⟨_, g, fun p hp => ?_⟩
    obtain ⟨p1, p2, h1, h2, rfl⟩ := zpP_get hp
    obtain ⟨u1, k1, r1⟩ := ra.get h1
    obtain ⟨u2, k2, r2⟩ := rb.get h2
    cases (ex vs (ha H s)).symm.trans k1
    cases (ey ws (hb H s)).symm.trans k2
    exact ⟨T, _, rfl, upd_same, Rep.mono g.a _ _ (Rep.mono s1 _ _ r1), Rep.mono g.a _ _ (Rep.mono s1 _ _ r2), trivial⟩
end
def pZip : List PV → Rs (List PV)
  | [.lst ps, .lst qs] => .ok (zpP ps qs)
  | [.tup ps, .tup qs] => .ok (zpP ps qs)
  | [.tup ps, .lst qs] => .ok (zpP ps qs)
  | [.lst ps, .tup qs] => .ok (zpP ps qs)
  | _ => .bad
abbrev iZp (f : Env → Rs (List PV)) : Env → Rs (List PV) := fun Γ => (f Γ).bind pZip
theorem ix_zip {f : Env → Rs (List PV)} {p tpos : Pos} {elts : List Expr} {kk : Nat} (ha : AX X W V [e, e2] f) (hm : X.mg "zip" = none) (hg : Gl X "zip" := by rfl) (st1 : starEach [e, e2] X.env = (false, eval e X.env) :: starEach [e2] X.env := by rfl) (st2 : (backTo pos (starEach [e2] X.env)).any (·.1) = false := by rfl) : IX X W V (.Tuple elts kk tpos) (.Call (.Name "zip" p) [e, e2] [] pos) (iZp f) :=
  ⟨_, pi_zip hg hm pa_of st1 st2, fun Γ σ H0 H R sh sm q => by
    have q : Post X.K W σ (fun ps H0' H' => ∀ J, Wk X.K H0' J ps → R J H') H0 H ((f Γ).bind pZip) := q
    refine ha Γ σ H0 H _ sh sm (q.step.mono fun qs H0' H' g q1 v r0 => ?_)
    have fin : ∀ (k l : Bool) (a b : Addr) (ps rs : List PV) (vs ws : List L2.V), H0' a = some (cond k (.lst vs) (.tup vs)) → H0' b = some (cond l (.lst ws) (.tup ws)) → Reps X.K H0' ps vs → Reps X.K H0' rs ws → Post X.K W σ (fun ps H0' H' => ∀ J, Wk X.K H0' J ps → R J H') H0' H' (.ok (zpP ps rs)) →
        ∃ a' b' k l xs ys, [L2.V.ref a, L2.V.ref b] = [.ref a', .ref b'] ∧ Row X.K k H' a' xs ∧ Row X.K l H' b' ys ∧ R (ItZ X.K k l a' b') H' := fun k l a b ps rs vs ws e1 e2 r1 r2 q2 =>
      ⟨a, b, k, l, vs, ws, rfl, row_of e1 H' g.c, row_of e2 H' g.c, q2 H0' H' (Gr.refl g.c) _ (wk_zip (row_of e1) (row_of e2) r1 r2)⟩
    match qs, q1, r0 with
    | [.lst ps, .lst rs], q1, r0 =>
      obtain ⟨v, w, rfl, ⟨a, vs, rfl, ha, ra⟩, ⟨b, ws, rfl, hb, rb⟩⟩ := reps2 r0
      exact fin true true a b ps rs vs ws ha hb ra rb q1
    | [.tup ps, .tup rs], q1, r0 =>
      obtain ⟨v, w, rfl, ⟨a, vs, rfl, ha, ra⟩, ⟨b, ws, rfl, hb, rb⟩⟩ := reps2 r0
      exact fin false false a b ps rs vs ws ha hb ra rb q1
    | [.tup ps, .lst rs], q1, r0 =>
      obtain ⟨v, w, rfl, ⟨a, vs, rfl, ha, ra⟩, ⟨b, ws, rfl, hb, rb⟩⟩ := reps2 r0
      exact fin false true a b ps rs vs ws ha hb ra rb q1
    | [.lst ps, .tup rs], q1, r0 =>
      obtain ⟨v, w, rfl, ⟨a, vs, rfl, ha, ra⟩, ⟨b, ws, rfl, hb, rb⟩⟩ := reps2 r0
      exact fin true false a b ps rs vs ws ha hb ra rb q1⟩
/-! ### texts for errors -/
/-- the parts of f'..' -/
def MX (X : Cx) (W : WX) (V : List Nat) (es : List Expr) (f : Env → Rs Unit) : Prop := ∃ ts, PJ X es ts ∧ ∀ Γ σ H0 H (acc : Str) (Q : Str → Hp → Prop), Shr X.K V H0 Γ σ → Same H0 H → acc.length + 2000 * es.length ≤ 100000 → Post X.K W σ (fun _ _ H' => ∀ o, Q o H') H0 H (f Γ) → tJs ts acc σ H Q
def mNil : Env → Rs Unit := fun _ => .ok ()
def pFmt : PV → Rs Unit
  | .int i => if -1000000000000 ≤ i ∧ i ≤ 1000000000000 then .ok () else .bad
  | .str s => if s.length ≤ 1000 then .ok () else .bad
  | _ => .bad
def mFmt (f : Env → Rs PV) (g : Env → Rs Unit) : Env → Rs Unit := fun Γ => (f Γ).bind fun p => (pFmt p).bind fun _ => g Γ
theorem mx_nil : MX X W V [] mNil := ⟨[], .nil, fun Γ σ H0 H acc Q sh sm hl q => (Post.pure (K := X.K) (W := W) (σ := σ) (good := fun _ _ H' => ∀ o, Q o H') sm q) acc⟩
theorem mx_str {x : Str} {j : Nat} {f : Env → Rs Unit} (hx : x.length ≤ 1000 := by decide +kernel) (h : MX X W V es f) : MX X W V (.Constant (.str x) j pos :: es) f := by
  obtain ⟨ts, pj, hh⟩ := h
  refine ⟨tC (.str x) :: ts, .cons pe_str pj, fun Γ σ H0 H acc Q sh sm hl q => ⟨x, rfl, ?_, ?_⟩⟩
  · rw [Str.length_append]
    rw [List.length_cons] at hl
    exact lim (by omega)
  · refine hh Γ σ H0 H _ Q sh sm ?_ q
    rw [Str.length_append]
    rw [List.length_cons] at hl
    omega
theorem tell_of {i : Int} (h0 : -1000000000000 ≤ i) (h1 : i ≤ 1000000000000) : i.natAbs.log2 < 1920 := by
  by_cases e : i.natAbs = 0
  · rw [e]; decide
  · refine Nat.lt_of_lt_of_le ((Nat.log2_lt (k := 41) e).mpr ?_) (by decide)
    have : (2 : Nat) ^ 41 = 2199023255552 := by decide
    omega
theorem mx_fmt {fe : Env → Rs PV} {f : Env → Rs Unit} (he : EX X W V e fe) (h : MX X W V es f) : MX X W V (.FormattedValue e (-1) none pos :: es) (mFmt fe f) := by
  obtain ⟨ts, pj, hh⟩ := h
  refine ⟨tFmt (tOf X e) :: ts, .cons (pe_fmt pe_of) pj, fun Γ σ H0 H acc Q sh sm hl q => he Γ σ H0 H _ sh sm (q.step.mono fun p H1 H2 g1 q1 v r => ?_)⟩
  rw [List.length_cons] at hl
  cases p with
  | int i =>
    have q1 : Post X.K W σ (fun _ _ H' => ∀ o, Q o H') H1 H2 ((if -1000000000000 ≤ i ∧ i ≤ 1000000000000 then Rs.ok () else .bad).bind fun _ => f Γ) := q1
    split at q1
    · rename_i hi
      have ht := tell_of hi.1 hi.2
      have hs : (toString i : Str).length ≤ 1921 := PyProof.Rows.int_text_len_1921 ht
      refine .inr ⟨i, r, ht, _, rfl, ?_, hh Γ σ H1 H2 _ Q (sh.mono g1.a) g1.c ?_ q1⟩
      · rw [Str.length_append]; exact lim (by omega)
      · rw [Str.length_append]; omega
    · exact False.elim q1
  | str s =>
    have q1 : Post X.K W σ (fun _ _ H' => ∀ o, Q o H') H1 H2 ((if s.length ≤ 1000 then Rs.ok () else .bad).bind fun _ => f Γ) := q1
    split at q1
    · rename_i hi
      refine .inl ⟨S s, r, ?_, _, rfl, ?_, hh Γ σ H1 H2 _ Q (sh.mono g1.a) g1.c ?_ q1⟩
      · have hS := S_len s
        rw [hS]; exact lim (by omega)
      · have hS := S_len s
        rw [Str.length_append]; exact lim (by omega)
      · have hS := S_len s
        rw [Str.length_append]; omega
    · exact False.elim q1
  | _ => exact False.elim q1
/-- raise X(f'..') -/
def dRaiseM (C : Addr) (f : Env → Rs Unit) : Env → Out := fun Γ => outE (f Γ) Γ fun _ => .exc C [] Γ
theorem s_raiseM {C : Addr} {x : Str} {v1 v2 : Expr} {p jp pos' : Pos} {f : Env → Rs Unit} (ec : ExcC X.K X.mg x C) (hc : X.calm = true) (tk : Takes X W) (hm : MX X W V (v1 :: v2 :: es) f) (ok : OkO M O) (hl : 2000 * (v1 :: v2 :: es).length ≤ 100000 := by decide) (hg : Gl X x := by rfl) (hs : starEach [.JoinedStr (v1 :: v2 :: es) jp] X.env = (false, eval (.JoinedStr (v1 :: v2 :: es) jp) X.env) :: starEach [] X.env := by rfl) (hdb : (x == ("__debug__" : Str)) = false := by decide) :
    SX X W M O O' (.Raise (some (.Call (.Name x p) [.JoinedStr (v1 :: v2 :: es) jp] [] pos)) none pos') (dRaiseM C f) := fun Z Γ σ H0 H D io E pp => by
  obtain ⟨ts, pj, hh⟩ := hm
  refine PS.to (ps_raiseC ec hc tk (pe_joined pj) hg hs hdb) ?_
  refine lend_post (V := V) (good := fun (_ : Unit) _ H' => ∀ o : Str, W (.ref C) none σ H') (R := fun _ H => tJs ts Str.empty σ H fun _ H1 => W (.ref C) none σ H1) io ok E pp (fun j => j ∈ V) (fun j hj _ => hj) (fun H0p sh sm q => hh Γ σ H0p H _ _ sh sm (by show 0 + _ ≤ _; omega) q) fun a H0' H' _ pn L o => ?_
  obtain ⟨_, _, H0'', E2, _⟩ := L
  obtain ⟨H1, _, _, E3⟩ := E2.freeze ok.ox fun q hq => ok.io _ (io q hq)
  exact pn none σ H1 H' E3 (.inl ⟨rfl, rfl⟩)
end
end Lh.P
set_option Elab.async false
set_option linter.all false
set_option maxRecDepth 100000
set_option maxHeartbeats 4000000
/-! Parameters that are lent to a def; new instances. -/
namespace Lh.P
open PySem PySem.Spec PyProof.Rows L2 _root_.SX
theorem startE_get {N : List Str} {ps : List PV} {i : Nat} {p : PV} (h : (startE N ps)[i]? = some (some p)) : ps[i]? = some p := by
  unfold startE at h
  by_cases hi : i < ps.length
  · rw [List.getElem?_append_left (by simpa using hi), List.getElem?_map] at h
    obtain ⟨q, hq, e⟩ := Option.map_eq_some_iff.mp h
    cases e
    exact hq
  · rw [List.getElem?_append_right (by simpa using hi), List.getElem?_replicate] at h
    split at h <;> cases h
theorem startE_put {N : List Str} {ps : List PV} {i : Nat} {p : PV} (h : ps[i]? = some p) : (startE N ps)[i]? = some (some p) := by
  unfold startE
  have hi := (List.getElem?_eq_some_iff.mp h).1
  rw [List.getElem?_append_left (by simpa using hi), List.getElem?_map, h]
  rfl
theorem start_put {N : List Str} {vs : List L2.V} {i : Nat} {v : L2.V} (h : vs[i]? = some v) : (L2.start N vs)[i]? = some (some v) := by
  unfold L2.start
  have hi := (List.getElem?_eq_some_iff.mp h).1
  rw [List.getElem?_append_left (by simp; omega), List.getElem?_map, h]
  rfl
theorem start_len {N : List Str} {ps : List PV} {vs : List L2.V} (e : vs.length = ps.length) (hl : ps.length ≤ N.length) : (L2.start N vs).length = (startE N ps).length := by
  unfold L2.start startE
  simp
  omega
/-- how a body with lent parameters may end -/
def finIO (K : PySem.W.Frag) (Z : Zn) (IO : List Nat) (Q : VK) (E : XK) : Out → Prop
  | .next Γ => ∀ σ H0 H', EnvOk K Z IO H0 H' Γ σ → Q .non H'
  | .ret p Γ => ∀ v σ H0 H', EnvOk K Z IO H0 H' Γ σ → Rep K H0 p v → Q v H'
  | .exc C fs Γ => ∀ d σ H0 H', EnvOk K Z IO H0 H' Γ σ → RepX K H0 H' fs d → E (.ref C) d H'
  | _ => False
/-- a promise by a body's worth: the parameters IO are lent -/
def spIO (K : PySem.W.Frag) (N : List Str) (n : Nat) (IO : List Nat) (f : Env → Out) : Sp := fun vs H Q E => vs.length = n ∧ ∃ (Z : Zn) (qs : List PV), qs.length = n ∧ (∀ q ∈ Z.I, q.1 ∈ IO) ∧ EnvOk K Z IO Z.H00 H (startE N qs) (L2.start N vs) ∧ finIO K Z IO Q E (f (startE N qs))
theorem io_body {X : Cx} {E : XK} {N : List Str} {n : Nat} {IO : List Nat} {f : Env → Out} {vs : List L2.V} {H : Hp} {Q : VK} {body : List Stmt} (hB : BX X (WF E) ⟨IO, [], IO, false⟩ IO IO body f) (h : spIO X.K N n IO f vs H Q E) :
    tssOf X body { nx := fun _ H' => Q .non H', rt := Q } (L2.start N vs) H := by
  obtain ⟨hl, Z, qs, hq, hZ, Ev, q⟩ := h
  refine hB Z (startE N qs) (L2.start N vs) Z.H00 H _ hZ Ev ?_
  cases hf : f (startE N qs) with
  | next Γ => rw [hf] at q; exact fun σ H0' H' E' => q σ H0' H' E'
  | ret p Γ => rw [hf] at q; exact fun v σ H0' H' E' r => q v σ H0' H' E' r
  | exc C fs Γ => rw [hf] at q; exact fun d σ H0' H' E' r => q d σ H0' H' E' r
  | brk Γ => rw [hf] at q; exact False.elim q
  | cont Γ => rw [hf] at q; exact False.elim q
  | bad => rw [hf] at q; exact False.elim q
section
variable {P : Program} {w : World} {K : PySem.W.Frag} {mg : Str → Option Value} {base : Heap} {N ps : List Str} {x qual : Str} {st : Stmt} {k : Nat} {IO : List Nat} {fB : Env → Out}
/-- a def with lent parameters -/
theorem fn_okIO (D : Dfn K mg x st) (S : FnScope N ps (defScope st))
    (hb : ∀ (kV doc pm : Value) (an : Option Addr) (cdv ct : Value) (us : List Value), us.length = ps.length → bindArgs (PySem.W.fnOf x x (defArgs st) (defBody st) (defScope st) .none kV doc pm an cdv ct) ⟨us, []⟩ = pure (ps.zip us))
    (hB : ∀ (f : Addr) (cdv : Value) (A : Around) (outer : List PySem.Env) (s : Shared) (H : Hp) (E : XK), Room k (A.deeper (envOfC x (defScope st) s.heap.objs.size f cdv)) →
      BX (cxOf (L2.CX P w) P w K mg base N x (defScope st) f cdv A outer s H E) (WF E) ⟨IO, [], IO, false⟩ IO IO (defBody st) fB) : Cal P w K mg base (L2.CX P w) (k + 1) x ps (spIO K N ps.length IO fB) :=
  D.cal S (fun vs H Q E h => h.1) hb fun f cdv A outer s H vs Q E hr h => ⟨_, pss_of, io_body (hB f cdv A outer s H E hr) h⟩
/-- a method, an __init__ -/
theorem me_okIO {params : Arguments} {body : List Stmt} {scope : Scope} {dvs : List L2.V} {kws : List (Str × L2.V)} {f : Addr} {fd : FuncData} (F : FunD K x qual params body scope dvs kws f fd) (S : FnScope N ps scope)
    (hB : ∀ (cdv : Value) (A : Around) (outer : List PySem.Env) (s : Shared) (H : Hp) (E : XK), Room k (A.deeper (envOfC qual scope s.heap.objs.size f cdv)) →
      BX (cxOf (L2.CX P w) P w K mg base N qual scope f cdv A outer s H E) (WF E) ⟨IO, [], IO, false⟩ IO IO body fB) : FnOk P w K mg base (L2.CX P w) (k + 1) f fd ps (spIO K N ps.length IO fB) :=
  F.ok S (fun vs H Q E h => h.1) fun cdv A outer s H vs Q E hr h => ⟨_, pss_of, io_body (hB cdv A outer s H E hr) h⟩
end
/-! ### new instances -/
section
variable {K : PySem.W.Frag} {H0 H : Hp} {qs : List PV} {vs : List L2.V} {C x dx : Addr} {N : List Str}
theorem made_same (hx : H x = none) (hd : H dx = none) (ne : dx ≠ x) : Same H (upd (upd H dx (.own x)) x (.ins C dx [])) := same_upd (same_new hd) hx
theorem env_make (rs : Reps K H0 qs vs) (sm : Same H0 H) (hx : H x = none) (hd : H dx = none) (ne : dx ≠ x) (hl : qs.length + 1 ≤ N.length) :
    EnvOk K ⟨H0, H, [(0, x)]⟩ [0] H0 (upd (upd H dx (.own x)) x (.ins C dx [])) (startE N (.ins C [] :: qs)) (L2.start N (.ref x :: vs)) := by
  have sn : Same H (upd (upd H dx (.own x)) x (.ins C dx [])) := made_same hx hd ne
  refine ⟨start_len (by simp [rs.len]) (by simpa using hl), fun _ _ h => h, sn, sm.trans sn, fun a h => .inl h, fun i p hp hi => ?_, fun _ => x, fun i hi p hp sp => ?_, fun q hq => ?_⟩
  · have h := startE_get hp
    cases i with
    | zero =>
      rw [List.getElem?_cons_zero] at h
      cases h
      exact hi.elim (fun hi => absurd (List.mem_singleton.mpr rfl) hi) fun z => by cases z
    | succ i =>
      rw [List.getElem?_cons_succ] at h
      obtain ⟨v, h1, h2⟩ := rs.get h
      exact ⟨v, start_put (by rw [List.getElem?_cons_succ]; exact h1), h2⟩
  · obtain rfl := List.mem_singleton.mp hi
    have h := startE_get hp
    rw [List.getElem?_cons_zero] at h
    cases h
    refine ⟨start_put (by rfl), ⟨dx, [], upd_same, trivial⟩, none_back sm hx, hx, fun j hj hn => absurd (List.mem_singleton.mp hj) hn⟩
  · obtain rfl := List.mem_singleton.mp hq
    exact ⟨List.mem_singleton.mpr rfl, rfl, _, startE_put (by rfl), rfl⟩
end
/-- the worth of a new instance: N the names of its __init__, n its parameters without self -/
def initR (C : Addr) (N : List Str) (n : Nat) (f : Env → Out) (qs : List PV) : Rs PV := if qs.length = n then (match f (startE N (.ins C [] :: qs)) with
    | .next Γ => (match Γ[0]? with
      | some (some p) => .ok p
      | _ => .bad)
    | .exc D fs _ => .ex D fs
    | _ => .bad) else .bad
abbrev bMk (C : Addr) (N : List Str) (n : Nat) (f : Env → Out) (fa : Env → Rs (List PV)) : Env → Rs PV := bC fa (initR C N n f)
/-- what is wanted of errors hangs on no slot -/
def Flat (W : WX) : Prop := ∀ cls d σ σ' H, W cls d σ H → W cls d σ' H
theorem flat_wf {E : XK} : Flat (WF E) := fun _ _ _ _ _ h => h
def WA (W : WX) : XK := fun cls d H => ∀ σ, W cls d σ H
section
variable {X : Cx} {W : WX} {V : List Nat} {e : Expr} {es : List Expr} {kws : List Keyword} {pos p : Pos} {x : Str} {ps N ks : List Str} {j k n : Nat} {C fI : Addr} {fd : FuncData} {fB : Env → Out} {fa fk : Env → Rs (List PV)}
theorem make_sp {σ : L2.St} {Hs H0 H : Hp} {qs : List PV} {vs : List L2.V} {Q : VK} {a dx : Addr} (fl : Flat W) (hN : n + 1 ≤ N.length) (rs : Reps X.K H0 qs vs) (sm : Same H0 H) (ss : Same Hs H) (hx : H a = none) (hd : H dx = none) (ne : dx ≠ a)
    (q : Post X.K W σ (gO X.K Hs Q) H0 H (initR C N n fB qs)) : spIO X.K N (n + 1) [0] fB (.ref a :: vs) (upd (upd H dx (.own a)) a (.ins C dx [])) (fun v H2 => v = .non ∧ Q (.ref a) H2) (WA W) := by
  unfold initR at q
  split at q
  · rename_i hl
    refine ⟨by rw [List.length_cons, rs.len, hl], ⟨H0, H, [(0, a)]⟩, .ins C [] :: qs, by rw [List.length_cons, hl], fun q hq => ?_, env_make rs sm hx hd ne (by omega), ?_⟩
    · obtain rfl := List.mem_singleton.mp hq
      exact List.mem_singleton.mpr rfl
    have gr : ∀ {H0' H' Γ σ'}, EnvOk X.K ⟨H0, H, [(0, a)]⟩ [0] H0' H' Γ σ' → Gr H0 H H0' H' := fun E => ⟨E.a, E.b, E.c, E.d⟩
    cases hf : fB (startE N (.ins C [] :: qs)) with
    | next Γ =>
      rw [hf] at q
      refine fun σ' H0' H' E => ⟨rfl, ?_⟩
      dsimp only at q
      cases h0 : Γ[0]? with
      | none => rw [h0] at q; exact False.elim q
      | some o =>
        cases o with
        | none => rw [h0] at q; exact False.elim q
        | some p =>
          rw [h0] at q
          obtain ⟨ρ, k1, k2⟩ := E.own
          obtain ⟨_, hr, p', hp', sp'⟩ := k2 (0, a) (List.mem_singleton.mpr rfl)
          have e' : p' = p := by
            have hp' : Γ[0]? = some (some p') := hp'
            rw [h0] at hp'; cases hp'; rfl
          rw [e'] at sp'
          obtain ⟨l1, l2, l3, l4, _⟩ := k1 0 (List.mem_singleton.mpr rfl) p h0 sp'
          have hr : ρ 0 = a := hr
          rw [hr] at l2 l3
          exact (q H0' H' (gr E)).2 a (none_back ss hx) l3 l2
    | exc D fs Γ =>
      rw [hf] at q
      exact fun d σ' H0' H' E r σ2 => fl _ _ _ _ _ (q d H0' H' (gr E) r)
    | ret p Γ => rw [hf] at q; exact False.elim q
    | brk Γ => rw [hf] at q; exact False.elim q
    | cont Γ => rw [hf] at q; exact False.elim q
    | bad => rw [hf] at q; exact False.elim q
  · exact False.elim q
/-- x(a, ..): a new instance of the class at C -/
theorem o_make (M : Mk X.K C fI) (F : FnOk X.prog X.w X.K X.mg X.base (L2.CX X.prog X.w) k fI fd ps (spIO X.K N (n + 1) [0] fB)) (hb : Binds X.K fd ps []) (hm : X.mg x = some (.ref C)) (hN : n + 1 ≤ N.length) (hr : Room j X.A) (tk : Takes X W) (fl : Flat W) (ha : AX X W V (e :: es) fa) (hk : k + 1 ≤ j := by decide) (hg : Gl X x := by rfl) (hdb : (x == ("__debug__" : Str)) = false := by decide)
    (he : starEach (e :: es) X.env = (false, eval e X.env) :: starEach es X.env := by rfl) (hpl : (backTo pos (starEach es X.env)).any (·.1) = false := by rfl) : OX X W V (.Call (.Name x p) (e :: es) [] pos) (bMk C N n fB fa) := fun Γ σ H0 H Q sh sm q =>
  PE.to (pe_make (E := WA W) M F (hr.mono hk) hg hm hb .nil (passes_call tk fun _ _ σ _ h => h σ) pa_of hdb he hpl)
    (ha Γ σ H0 H _ sh sm (q.step.mono fun qs H1 H2 g q1 vs rs a dx hx hd ne => by
      rw [List.append_nil]
      exact make_sp fl hN rs g.c g.b hx hd ne q1))
end
/-! ### calls that lend -/
/-- the values of a call: those told, those lent -/
def Mix (K : PySem.W.Frag) (H0 : Hp) (Γ : Env) (σ : L2.St) : List (Option Nat) → List PV → List L2.V → Prop
  | [], [], [] => True
  | none :: ms, p :: ps, v :: vs => Rep K H0 p v ∧ Mix K H0 Γ σ ms ps vs
  | some k :: ms, p :: ps, v :: vs => (Γ[k]? = some (some p) ∧ σ[k]? = some (some v)) ∧ Mix K H0 Γ σ ms ps vs
  | _, _, _ => False
section
variable {K : PySem.W.Frag} {H0 H : Hp} {Γ : Env} {σ : L2.St}
theorem Mix.len : ∀ {ms : List (Option Nat)} {ps : List PV} {vs : List L2.V}, Mix K H0 Γ σ ms ps vs → vs.length = ps.length ∧ ms.length = ps.length
  | [], [], [], _ => ⟨rfl, rfl⟩
  | none :: ms, p :: ps, v :: vs, h => by obtain ⟨a, b⟩ := Mix.len h.2; exact ⟨by simp [a], by simp [b]⟩
  | some k :: ms, p :: ps, v :: vs, h => by obtain ⟨a, b⟩ := Mix.len h.2; exact ⟨by simp [a], by simp [b]⟩
  | [], _ :: _, _, h => False.elim (by cases h)
  | [], [], _ :: _, h => False.elim (by cases h)
  | none :: _, [], _, h => False.elim (by cases h)
  | some _ :: _, [], _, h => False.elim (by cases h)
  | none :: _, _ :: _, [], h => False.elim (by cases h)
  | some _ :: _, _ :: _, [], h => False.elim (by cases h)
theorem Mix.get : ∀ {ms : List (Option Nat)} {ps : List PV} {vs : List L2.V} {i : Nat} {p : PV}, Mix K H0 Γ σ ms ps vs → ps[i]? = some p → ∃ v, vs[i]? = some v ∧ ((ms[i]? = some none ∧ Rep K H0 p v) ∨ ∃ k, ms[i]? = some (some k) ∧ Γ[k]? = some (some p) ∧ σ[k]? = some (some v))
  | [], [], [], i, p, _, e => by cases e
  | none :: ms, q :: ps, v :: vs, 0, p, h, e => by cases e; exact ⟨v, rfl, .inl ⟨rfl, h.1⟩⟩
  | some k :: ms, q :: ps, v :: vs, 0, p, h, e => by cases e; exact ⟨v, rfl, .inr ⟨k, rfl, h.1⟩⟩
  | none :: ms, q :: ps, v :: vs, i + 1, p, h, e => Mix.get (ms := ms) (ps := ps) (vs := vs) (i := i) h.2 e
  | some k :: ms, q :: ps, v :: vs, i + 1, p, h, e => Mix.get (ms := ms) (ps := ps) (vs := vs) (i := i) h.2 e
  | [], _ :: _, _, _, _, h, _ => False.elim (by cases h)
  | [], [], _ :: _, _, _, h, _ => False.elim (by cases h)
  | none :: _, [], _, _, _, h, _ => False.elim (by cases h)
  | some _ :: _, [], _, _, _, h, _ => False.elim (by cases h)
  | none :: _, _ :: _, [], _, _, h, _ => False.elim (by cases h)
  | some _ :: _, _ :: _, [], _, _, h, _ => False.elim (by cases h)
end
/-- the caller's slots behind a call: what was lent comes back -/
def upE (prs : List (Nat × Nat)) (Γ Γ' : Env) : Env := Γ.mapIdx fun i o => match prs.find? (fun q => q.2 == i) with
  | some q => (Γ'[q.1]?).getD none
  | none => o
/-- what is lent has a place -/
def lentOk (prs : List (Nat × Nat)) (qs : List PV) : Bool := prs.all fun q => match qs[q.1]? with
  | some p => !scP p
  | none => true
/-- which parameter stands for which slot -/
structure Prs (prs : List (Nat × Nat)) (ms : List (Option Nat)) (O : List Nat) : Prop where
  a : ∀ q ∈ prs, ms[q.1]? = some (some q.2) ∧ q.2 ∈ O
  b : ms = (List.range ms.length).map fun j => (prs.find? (fun q => q.1 == j)).map (·.2)
  c : ∀ q ∈ prs, ∀ r ∈ prs, q.2 = r.2 → q = r
theorem Prs.mem {prs : List (Nat × Nat)} {ms : List (Option Nat)} {O : List Nat} (h : Prs prs ms O) {j k : Nat} (e : ms[j]? = some (some k)) : (j, k) ∈ prs := by
  rw [h.b, List.getElem?_map] at e
  obtain ⟨i, h1, h2⟩ := Option.map_eq_some_iff.mp e
  rw [List.getElem?_range (by
    have := (List.getElem?_eq_some_iff.mp h1).1
    simpa using this)] at h1
  cases h1
  obtain ⟨q, h3, h4⟩ := Option.map_eq_some_iff.mp h2
  have m := List.mem_of_find?_eq_some h3
  have t := List.find?_some h3
  have t : q.1 = j := by simpa using t
  subst t h4
  exact m
theorem upE_get {prs : List (Nat × Nat)} {Γ Γ' : Env} {i : Nat} {p : PV} (h : (upE prs Γ Γ')[i]? = some (some p)) : (Γ[i]? = some (some p) ∧ ∀ q ∈ prs, q.2 ≠ i) ∨ (∃ q ∈ prs, q.2 = i ∧ Γ'[q.1]? = some (some p)) := by
  unfold upE at h
  rw [List.getElem?_mapIdx] at h
  obtain ⟨o, h1, h2⟩ := Option.map_eq_some_iff.mp h
  cases hf : prs.find? (fun q => q.2 == i) with
  | none =>
    rw [hf] at h2
    refine .inl ⟨by rw [h1]; exact congrArg some h2, fun q hq e => ?_⟩
    have := List.find?_eq_none.mp hf q hq
    exact this (by simpa using e)
  | some q =>
    rw [hf] at h2
    refine .inr ⟨q, List.mem_of_find?_eq_some hf, by simpa using List.find?_some hf, ?_⟩
    have h2 : (Γ'[q.1]?).getD none = some p := h2
    cases hg : Γ'[q.1]? with
    | none => rw [hg] at h2; cases h2
    | some o => rw [hg] at h2; exact congrArg some h2
theorem upE_old {prs : List (Nat × Nat)} {Γ Γ' : Env} {i : Nat} (h : ∀ q ∈ prs, q.2 ≠ i) : (upE prs Γ Γ')[i]? = Γ[i]? := by
  unfold upE
  rw [List.getElem?_mapIdx]
  have : prs.find? (fun q => q.2 == i) = none := List.find?_eq_none.mpr fun q hq => by simpa using h q hq
  rw [this]
  cases Γ[i]? <;> rfl
theorem upE_new {prs : List (Nat × Nat)} {ms : List (Option Nat)} {O : List Nat} (W : Prs prs ms O) {Γ Γ' : Env} {q : Nat × Nat} {p r : PV} (hq : q ∈ prs) (hl : Γ[q.2]? = some (some r)) (h : Γ'[q.1]? = some (some p)) : (upE prs Γ Γ')[q.2]? = some (some p) := by
  unfold upE
  rw [List.getElem?_mapIdx, hl]
  cases hf : prs.find? (fun r => r.2 == q.2) with
  | none => exact absurd (List.find?_eq_none.mp hf q hq) (by simp)
  | some r =>
    have e : r = q := W.c r (List.mem_of_find?_eq_some hf) q hq (by simpa using List.find?_some hf)
    subst e
    simp [hf, h]
theorem upE_len {prs : List (Nat × Nat)} {Γ Γ' : Env} : (upE prs Γ Γ').length = Γ.length := List.length_mapIdx
section
variable {K : PySem.W.Frag} {Z : Zn} {O : List Nat} {H0 H : Hp} {Γ : Env} {σ : L2.St} {prs : List (Nat × Nat)} {ms : List (Option Nat)} {N : List Str} {qs : List PV} {vs : List L2.V}
theorem lentOk_get {prs : List (Nat × Nat)} {qs : List PV} (h : lentOk prs qs = true) {q : Nat × Nat} (hq : q ∈ prs) {p : PV} (hp : qs[q.1]? = some p) : scP p = false := by
  have := List.all_eq_true.mp h q hq
  rw [hp] at this
  simpa using this
theorem io_in (E : EnvOk K Z O H0 H Γ σ) (W : Prs prs ms O) (mx : Mix K H0 Γ σ ms qs vs) (hl : qs.length ≤ N.length) {IO : List Nat} (hIO : IO = prs.map (·.1)) (hsc : lentOk prs qs = true) :
    ∃ Z' : Zn, Z'.H00 = H0 ∧ (∀ q ∈ Z'.I, q.1 ∈ IO) ∧ EnvOk K Z' IO H0 H (startE N qs) (L2.start N vs) ∧ ∀ Γ' σ' H0' H', EnvOk K Z' IO H0' H' Γ' σ' → EnvOk K Z O H0' H' (upE prs Γ Γ') σ := by
  subst hIO
  obtain ⟨ρ, h1, h2⟩ := E.own
  let Ex : Addr → Prop := fun a => ∃ q ∈ prs, a = ρ q.2
  have hin : ∀ q ∈ prs, q.1 ∈ prs.map (·.1) := fun q hq => List.mem_map.mpr ⟨q, hq, rfl⟩
  have hlive : ∀ q ∈ prs, ∃ p, qs[q.1]? = some p ∧ Γ[q.2]? = some (some p) ∧ scP p = false := fun q hq => by
    have e := (W.a q hq).1
    have hlt := (List.getElem?_eq_some_iff.mp e).1
    rw [mx.len.2] at hlt
    refine ⟨qs[q.1], List.getElem?_eq_getElem _, ?_, lentOk_get hsc hq (List.getElem?_eq_getElem hlt)⟩
    obtain ⟨v, _, h⟩ := mx.get (List.getElem?_eq_getElem hlt)
    rcases h with ⟨h, _⟩ | ⟨k, h, h3, _⟩
    · rw [e] at h; cases h
    · rw [e] at h; cases h; exact h3
  let sl : Nat → Nat := fun j => match ms[j]? with
    | some (some k) => k
    | _ => 0
  have hsl : ∀ q ∈ prs, sl q.1 = q.2 := fun q hq => by
    show (match ms[q.1]? with
      | some (some k) => k
      | _ => 0) = q.2
    rw [(W.a q hq).1]
  have hdis : ∀ q ∈ prs, ∀ r ∈ prs, q.2 ≠ r.2 → ρ q.2 ≠ ρ r.2 := fun q hq r hr hn => by
    obtain ⟨p, _, hp, sp⟩ := hlive r hr
    obtain ⟨p2, _, hp2⟩ := hlive q hq
    exact (h1 r.2 (W.a r hr).2 p hp sp).2.2.2.2 q.2 (W.a q hq).2 hn ⟨p2, hp2⟩
  refine ⟨⟨H0, less H Ex, prs.map fun q => (q.1, ρ q.2)⟩, rfl, fun q hq => ?_, ⟨start_len mx.len.1 hl, fun _ _ h => h, fun a o h => ?_, E.c, fun a h => .inl h, fun i p hp hi => ?_, fun j => ρ (sl j), fun i hi p hp sp => ?_, fun q hq => ?_⟩, fun Γ' σ' H0' H' E' => ?_⟩
  · obtain ⟨r, hr, rfl⟩ := List.mem_map.mp hq
    exact hin r hr
  · have h : less H Ex a = some o := h
    unfold less at h
    split at h
    · cases h
    · exact h
  · obtain ⟨v, h3, h4⟩ := mx.get (startE_get hp)
    rcases h4 with ⟨_, h4⟩ | ⟨k, h4, _⟩
    · exact ⟨v, start_put h3, h4⟩
    · rcases hi with hi | hi
      · exact absurd (hin _ (W.mem h4)) hi
      · rw [lentOk_get hsc (W.mem h4) (startE_get hp)] at hi; cases hi
  · obtain ⟨q, hq, rfl⟩ := List.mem_map.mp hi
    obtain ⟨v, h3, h4⟩ := mx.get (startE_get hp)
    rcases h4 with ⟨h4, _⟩ | ⟨k, h4, h5, h6⟩
    · rw [(W.a q hq).1] at h4; cases h4
    rw [(W.a q hq).1] at h4
    cases h4
    obtain ⟨k1, k2, k3, k4, k5⟩ := h1 q.2 (W.a q hq).2 p h5 sp
    rw [h6] at k1
    cases k1
    show _ = some (some (L2.V.ref (ρ (sl q.1)))) ∧ Root K H0 H (ρ (sl q.1)) p ∧ H0 (ρ (sl q.1)) = none ∧ less H Ex (ρ (sl q.1)) = none ∧ ∀ j ∈ prs.map (·.1), j ≠ q.1 → (∃ r, (startE N qs)[j]? = some (some r) ∧ scP r = false) → ρ (sl j) ≠ ρ (sl q.1)
    rw [hsl q hq]
    refine ⟨start_put h3, k2, k3, if_pos ⟨q, hq, rfl⟩, fun j hj hn _ => ?_⟩
    obtain ⟨r, hr, rfl⟩ := List.mem_map.mp hj
    rw [hsl r hr]
    exact hdis r hr q hq fun z => hn (by rw [W.c r hr q hq z])
  · obtain ⟨r, hr, rfl⟩ := List.mem_map.mp hq
    obtain ⟨p, h3, _, sp⟩ := hlive r hr
    exact ⟨hin r hr, by show ρ (sl r.1) = ρ r.2; rw [hsl r hr], p, startE_put h3, sp⟩
  · have sb : ∀ a o, less H Ex a = some o → H' a = some o := fun a o h => E'.b a o h
    have nl : ∀ a, ¬ Ex a → less H Ex a = H a := fun a h => if_neg h
    obtain ⟨ρ', g1, g2⟩ := E'.own
    refine ⟨by rw [upE_len]; exact E.len, E.a.trans E'.a, fun a o h => ?_, E'.c, fun a h => ?_, fun i p hp hi => ?_, ρ, fun i hi p hp sp => ?_, fun q hq => ?_⟩
    · refine sb a o ?_
      rw [nl a fun ⟨q, hq, e⟩ => ?_]
      · exact E.b a o h
      · obtain ⟨p, _, hp, sp⟩ := hlive q hq
        rw [e, (h1 q.2 (W.a q hq).2 p hp sp).2.2.2.1] at h
        cases h
    · rcases E'.d a h with h | h
      · exact E.d a h
      · by_cases ex : Ex a
        · obtain ⟨q, hq, e⟩ := ex
          obtain ⟨p, _, hp, sp⟩ := hlive q hq
          exact .inr (by rw [e]; exact (h1 q.2 (W.a q hq).2 p hp sp).2.2.2.1)
        · have h : less H Ex a = none := h
          rw [nl a ex] at h
          exact .inr (none_back E.b h)
    · rcases upE_get hp with ⟨hp, _⟩ | ⟨q, hq, e, _⟩
      · obtain ⟨v, k1, k2⟩ := E.vals i p hp hi
        exact ⟨v, k1, Rep.mono E'.a _ _ k2⟩
      · rcases hi with hi | hi
        · exact absurd (by rw [← e]; exact (W.a q hq).2) hi
        · rename_i hp1
          obtain ⟨_, _, p', hp', sp'⟩ := g2 (q.1, ρ q.2) (List.mem_map.mpr ⟨q, hq, rfl⟩)
          have hp' : Γ'[q.1]? = some (some p') := hp'
          rw [hp1] at hp'
          cases hp'
          rw [sp'] at hi; cases hi
    · have lv : ∀ j : Nat, (∃ r : PV, (upE prs Γ Γ')[j]? = some (some r) ∧ scP r = false) → ∃ r : PV, Γ[j]? = some (some r) ∧ scP r = false := fun j hj => by
        obtain ⟨r, hr, sr⟩ := hj
        rcases upE_get hr with ⟨h, _⟩ | ⟨q, hq, e, _⟩
        · exact ⟨r, h, sr⟩
        · obtain ⟨p, _, hp, sp⟩ := hlive q hq
          exact ⟨p, by rw [← e]; exact hp, sp⟩
      obtain ⟨p0, hp0, sp0⟩ := lv i ⟨p, hp, sp⟩
      obtain ⟨k1, k2, k3, k4, k5⟩ := h1 i hi p0 hp0 sp0
      rcases upE_get hp with ⟨hp1, hno⟩ | ⟨q, hq, e, hp1⟩
      · have e0 : p0 = p := by rw [hp0] at hp1; cases hp1; rfl
        subst e0
        have nx : ¬ Ex (ρ i) := fun ⟨q, hq, e⟩ => by
          obtain ⟨r, _, hr, sr⟩ := hlive q hq
          exact k5 q.2 (W.a q hq).2 (hno q hq) ⟨r, hr, sr⟩ e.symm
        obtain ⟨o, ho⟩ := k2.known
        have hs := sb (ρ i) o (by rw [nl _ nx]; exact ho)
        refine ⟨k1, Root.mono E'.a (fun _ _ h => h) (Root.keep (by rw [hs, ho]) k2), ?_, k4, fun j hj hn hr => k5 j hj hn (lv j hr)⟩
        cases h0 : H0' (ρ i) with
        | none => rfl
        | some u =>
          rcases E'.d (ρ i) (by rw [h0]; simp) with h | h
          · exact absurd k3 h
          · have h : less H Ex (ρ i) = none := h
            rw [nl _ nx, ho] at h
            cases h
      · subst e
        obtain ⟨l1, l2, l3, _, _⟩ := g1 q.1 (hin q hq) p hp1 sp
        have e2 : ρ' q.1 = ρ q.2 := (g2 (q.1, ρ q.2) (List.mem_map.mpr ⟨q, hq, rfl⟩)).2.1
        rw [e2] at l2 l3
        exact ⟨k1, l2, l3, k4, fun j hj hn hr => k5 j hj hn (lv j hr)⟩
    · obtain ⟨a1, a2, p, a3, ap⟩ := h2 q hq
      refine ⟨a1, a2, ?_⟩
      by_cases hy : ∃ r ∈ prs, r.2 = q.1
      · obtain ⟨r, hr, e⟩ := hy
        obtain ⟨_, _, p', hp', sp'⟩ := g2 (r.1, ρ r.2) (List.mem_map.mpr ⟨r, hr, rfl⟩)
        exact ⟨p', by rw [← e]; exact upE_new W hr (by rw [e]; exact a3) hp', sp'⟩
      · exact ⟨p, by rw [upE_old fun r hr e => hy ⟨r, hr, e⟩]; exact a3, ap⟩
end
/-- the values of a call that lends -/
def YX (X : Cx) (W : WX) (V : List Nat) (ms : List (Option Nat)) (es : List Expr) (f : Env → Rs (List PV)) : Prop := ∀ Γ σ H0 H Q, Shr X.K V H0 Γ σ → Same H0 H → (∀ k, some k ∈ ms → ∀ p, Γ[k]? = some (some p) → ∃ v, σ[k]? = some (some v)) → Post X.K W σ (fun ps H0' H' => ∀ vs, Mix X.K H0' Γ σ ms ps vs → Q vs H') H0 H (f Γ) → taOf X es σ H Q
theorem Mix.mono {K : PySem.W.Frag} {H0 H0' : Hp} {Γ : Env} {σ : L2.St} (s : Same H0 H0') : ∀ {ms : List (Option Nat)} {ps : List PV} {vs : List L2.V}, Mix K H0 Γ σ ms ps vs → Mix K H0' Γ σ ms ps vs
  | [], [], [], _ => trivial
  | none :: ms, p :: ps, v :: vs, h => ⟨Rep.mono s _ _ h.1, Mix.mono s h.2⟩
  | some k :: ms, p :: ps, v :: vs, h => ⟨h.1, Mix.mono s h.2⟩
  | [], _ :: _, _, h => False.elim (by cases h)
  | [], [], _ :: _, h => False.elim (by cases h)
  | none :: _, [], _, h => False.elim (by cases h)
  | some _ :: _, [], _, h => False.elim (by cases h)
  | none :: _, _ :: _, [], h => False.elim (by cases h)
  | some _ :: _, _ :: _, [], h => False.elim (by cases h)
section
variable {X : Cx} {W : WX} {M : Md} {V O O' : List Nat} {ms : List (Option Nat)} {e : Expr} {es : List Expr} {pos p : Pos} {x : Str} {ps N : List Str} {j k n : Nat} {fB : Env → Out} {fa : Env → Rs (List PV)} {prs : List (Nat × Nat)} {IO : List Nat} {st : Stmt}
theorem y_nil : YX X W V [] [] aNil := fun Γ σ H0 H Q sh sm lv q => PA.to pa_nil (q.pure sm [] trivial)
theorem y_val {f : Env → Rs PV} {g : Env → Rs (List PV)} (h : EX X W V e f) (hs : YX X W V ms es g) (hst : starEach (e :: es) X.env = (false, eval e X.env) :: starEach es X.env := by rfl) : YX X W V (none :: ms) (e :: es) (aCons f g) := fun Γ σ H0 H Q sh sm lv q =>
  PA.to (pa_cons pe_of pa_of hst) (h Γ σ H0 H _ sh sm (q.step.mono fun x H1 H2 g1 q1 v r => hs Γ σ H1 H2 _ (sh.mono g1.a) g1.c (fun k hk => lv k (List.mem_cons_of_mem _ hk)) (q1.step.mono fun xs H3 H4 g2 q2 vs rs => q2.pure g2.c (v :: vs) ⟨Rep.mono g2.a _ _ r, rs⟩)))
theorem y_own {i : Nat} {g : Env → Rs (List PV)} (h : PE X e (tVar i)) (hs : YX X W V ms es g) (hst : starEach (e :: es) X.env = (false, eval e X.env) :: starEach es X.env := by rfl) : YX X W V (some i :: ms) (e :: es) (aCons (eV i) g) := fun Γ σ H0 H Q sh sm lv q => by
  refine PA.to (pa_cons h pa_of hst) ?_
  have q : Post X.K W σ (fun ps H0' H' => ∀ vs, Mix X.K H0' Γ σ (some i :: ms) ps vs → Q vs H') H0 H ((lk Γ i).bind fun x => (g Γ).bind fun xs => .ok (x :: xs)) := q
  unfold lk at q
  cases hp : Γ[i]? with
  | none => rw [hp] at q; exact False.elim q
  | some o =>
    cases o with
    | none => rw [hp] at q; exact False.elim q
    | some p =>
      rw [hp] at q
      obtain ⟨v, hv⟩ := lv i List.mem_cons_self p hp
      have q : Post X.K W σ (fun ps H0' H' => ∀ vs, Mix X.K H0' Γ σ (some i :: ms) ps vs → Q vs H') H0 H ((g Γ).bind fun xs => .ok (p :: xs)) := q
      exact ⟨v, hv, hs Γ σ H0 H _ sh sm (fun k hk => lv k (List.mem_cons_of_mem _ hk)) (q.step.mono fun xs H3 H4 g2 q2 vs rs => q2.pure g2.c (v :: vs) ⟨⟨hp, hv⟩, rs⟩)⟩
/-- f(a, ..), its worth dropped; the lent slots change -/
def dIO (N : List Str) (n : Nat) (prs : List (Nat × Nat)) (f : Env → Out) (fa : Env → Rs (List PV)) : Env → Out := fun Γ => outE (fa Γ) Γ fun qs => if qs.length = n ∧ n ≤ N.length ∧ lentOk prs qs = true then (match f (startE N qs) with
    | .next Γ' => .next (upE prs Γ Γ')
    | .exc C fs Γ' => .exc C fs (upE prs Γ Γ')
    | .ret _ Γ' => .next (upE prs Γ Γ')
    | _ => .bad) else .bad
theorem s_io (C : Cal X.prog X.w X.K X.mg X.base (L2.CX X.prog X.w) k x ps (spIO X.K N n IO fB)) (hr : Room j X.A) (tk : Takes X W) (ha : YX X W V ms (e :: es) fa) (hpr : Prs prs ms O) (hIO : IO = prs.map (·.1)) (hV : ∀ j ∈ V, j ∉ O) (ok : OkO M O) (hk : k ≤ j := by decide) (hg : Gl X x := by rfl) (hdb : (x == ("__debug__" : Str)) = false := by decide)
    (he : starEach (e :: es) X.env = (false, eval e X.env) :: starEach es X.env := by rfl) (hpl : (backTo pos (starEach es X.env)).any (·.1) = false := by rfl) : SX X W M O O (.Expr (.Call (.Name x p) (e :: es) [] pos) pos') (dIO N n prs fB fa) := fun Z Γ σ H0 H D io E pp => by
  refine PS.to (ps_expr (pclS C hr tk pa_of hk hg hdb he hpl)) ?_
  show taOf X (e :: es) σ H fun vs H1 => spIO X.K N n IO fB vs H1 (fun _ H2 => D.nx σ H2) (WE W σ)
  have sh : Shr X.K V H0 Γ σ := ⟨E.len, fun i hi q hq => E.vals i q hq (.inl (hV i hi))⟩
  refine ha Γ σ H0 H _ sh E.c (fun k hk q hq => ?_) ?_
  · by_cases ho : k ∉ O ∨ scP q = true
    · obtain ⟨v, h, _⟩ := E.vals k q hq ho
      exact ⟨v, h⟩
    · rw [not_or] at ho
      obtain ⟨ρ, h1, _⟩ := E.own
      exact ⟨_, (h1 k (Classical.not_not.mp ho.1) q hq (by simpa using ho.2)).1⟩
  have pp : PostS X.K W Z M O D (outE (fa Γ) Γ fun qs => if qs.length = n ∧ n ≤ N.length ∧ lentOk prs qs = true then (match fB (startE N qs) with
    | .next Γ' => .next (upE prs Γ Γ')
    | .exc C fs Γ' => .exc C fs (upE prs Γ Γ')
    | .ret _ Γ' => .next (upE prs Γ Γ')
    | _ => .bad) else .bad) := pp
  cases hf : fa Γ with
  | bad => exact absurd hf (bad_out pp)
  | ex C fs => exact fun d H0' H' g rx => exn_out io ok pp hf (E.grow g) rx
  | ok qs =>
    rw [hf] at pp
    intro H0' H' g vs mx
    have pp : PostS X.K W Z M O D (if qs.length = n ∧ n ≤ N.length ∧ lentOk prs qs = true then (match fB (startE N qs) with
      | .next Γ' => .next (upE prs Γ Γ')
      | .exc C fs Γ' => .exc C fs (upE prs Γ Γ')
      | .ret _ Γ' => .next (upE prs Γ Γ')
      | _ => .bad) else .bad) := pp
    split at pp
    · rename_i hl
      obtain ⟨Z', e0, hZ, Ei, back⟩ := io_in (N := N) (E.grow g) hpr mx (by omega) hIO hl.2.2
      refine ⟨by rw [mx.len.1]; exact hl.1, Z', qs, hl.1, hZ, by rw [e0]; exact Ei, ?_⟩
      cases hB : fB (startE N qs) with
      | next Γ' => rw [hB] at pp; exact fun σ' H0' H' E' => pp σ H0' H' (back _ _ _ _ E')
      | ret q Γ' => rw [hB] at pp; exact fun v σ' H0' H' E' r => pp σ H0' H' (back _ _ _ _ E')
      | exc C fs Γ' =>
        rw [hB] at pp
        refine fun d σ' H0' H' E' rx => ?_
        obtain ⟨H1, s1, _, E2⟩ := (back _ _ _ _ E').freeze ok.ox fun q hq => ok.io _ (io q hq)
        refine pp d σ H1 H' E2 ?_
        rcases rx with h | ⟨dx, gs, e, h1, h2⟩
        · exact .inl h
        · exact .inr ⟨dx, gs, e, h1, RepF.mono s1 _ _ h2.1, h2.2⟩
      | brk Γ' => rw [hB] at pp; exact False.elim pp
      | cont Γ' => rw [hB] at pp; exact False.elim pp
      | bad => rw [hB] at pp; exact False.elim pp
    · exact False.elim pp
end
end Lh.P
set_option Elab.async false
set_option linter.all false
set_option maxRecDepth 100000
set_option maxHeartbeats 4000000
/-! Two new rows at once; the classes of the program. -/
namespace Lh.P
open PySem PySem.Spec PyProof.Rows L2 _root_.SX
section
variable {X : Cx} {W : WX} {M : Md} {V O O1 : List Nat} {a b : Expr} {st : Stmt} {f g : Env → Rs PV}
/-- a, b = x, y; both are new -/
def dParO (i j : Nat) (f g : Env → Rs PV) : Env → Out := fun Γ => outE ((f Γ).bind fun x => if scP x = true then .bad else (g Γ).bind fun y => if scP y = true then .bad else .ok (x, y)) Γ fun q => .next ((Γ.set i (some q.1)).set j (some q.2))
theorem s_parO {i j : Nat} (ps : ∀ ta, PA X [a, b] ta → PS X st (tPar i j ta)) (ha : OX X W V a f) (hb : OX X W V b g) (hij : i ≠ j) (hO : ∀ l ∈ O1, l ∈ O ∧ l ∉ V ∧ l ≠ i ∧ l ≠ j) (hI : ∀ j ∈ M.IO, j ∈ O1) (ok : OkO M O)
    (h1 : starEach [a, b] X.env = (false, eval a X.env) :: starEach [b] X.env := by rfl) (h2 : starEach [b] X.env = (false, eval b X.env) :: starEach [] X.env := by rfl) : SX X W M O (j :: i :: O1) st (dParO i j f g) := fun Z Γ σ H0 H D io E p => by
  refine PS.to (ps _ (pa_cons pe_of (pa_cons pe_of pa_nil h2) h1)) ?_
  show tOf X a σ H fun x H1 => tOf X b σ H1 fun y H2 => ∃ v w, [x, y] = [v, w] ∧ D.nx ((σ.set i (some v)).set j (some w)) H2
  refine lend_post (V := V) (α := PV × PV) (good := fun q H0' H' => ∀ a b, H a = none → H b = none → a ≠ b → H0' a = none → H0' b = none → Root X.K H0' H' a q.1 → Root X.K H0' H' b q.2 → D.nx ((σ.set i (some (.ref a))).set j (some (.ref b))) H')
    (R := fun _ H => tOf X a σ H fun x H1 => tOf X b σ H1 fun y H2 => ∃ v w, [x, y] = [v, w] ∧ D.nx ((σ.set i (some v)).set j (some w)) H2) io ok E p (fun j => j ∉ O1) (fun j hj _ z => (hO j z).2.1 hj) (fun H0p sh sm q => ?_) fun q H0' H' _ pn L a b n m ne n0 m0 r s => ?_
  · refine ha Γ σ H0p H _ sh sm (q.step.mono fun x H1 H2 g1 q1 => ?_)
    by_cases sx : scP x = true
    · rw [if_pos sx] at q1; exact False.elim q1
    rw [if_neg sx] at q1
    refine ⟨fun z => absurd z sx, fun a n n0 r => ?_⟩
    refine hb Γ σ H1 H2 _ (sh.mono g1.a) g1.c (q1.step.mono fun y H3 H4 g2 q2 => ?_)
    by_cases sy : scP y = true
    · rw [if_pos sy] at q2; exact False.elim q2
    rw [if_neg sy] at q2
    refine ⟨fun z => absurd z sy, fun b m m0 s => ⟨_, _, rfl, ?_⟩⟩
    obtain ⟨o, ho⟩ := r.known
    have ne : a ≠ b := fun z => by rw [← z, ho] at m; cases m
    refine q2.pure g2.c a b n (none_back g1.b m) ne ?_ m0 (Root.mono g2.a g2.b r) s
    cases h : H3 a with
    | none => rfl
    | some u =>
      rcases g2.d a (by rw [h]; simp) with z | z
      · exact absurd n0 z
      · rw [ho] at z; cases z
  · have E2 := L.2.1 O1 (fun j => ⟨fun z => ⟨(hO j z).1, fun y => y z⟩, fun z => Classical.byContradiction z.2⟩) fun q hq => hI _ (io q hq)
    have E3 := E2.putO (i := i) (Hs := H) (fun z => (hO i z).2.2.1 rfl) r n0 (none_back E.b n) fun j hj q hq sq => own_apart E n j (hO j hj).1 q hq sq
    refine pn _ _ _ (E3.putO (i := j) (Hs := H) (fun z => ?_) s m0 (none_back E.b m) fun l hl q hq sq => ?_)
    · rcases List.mem_cons.mp z with z | z
      · exact hij z.symm
      · exact (hO j z).2.2.2 rfl
    · by_cases e : i = l
      · subst e
        intro z
        rw [List.getElem?_set] at z
        rw [if_pos rfl] at z
        split at z
        · cases z; exact ne rfl
        · cases z
      · rw [List.getElem?_set_ne e] at hq ⊢
        rcases List.mem_cons.mp hl with z | z
        · exact absurd z.symm e
        · exact own_apart E m l (hO l z).1 q hq sq
end
/-- a class of the program, its __init__ as the head tells it -/
structure Make (P : Program) (w : World) (K : PySem.W.Frag) (mg : Str → Option Value) (base : Heap) (k : Nat) (x : Str) (C : Addr) (N ps : List Str) (n : Nat) (fB : Env → Out) : Prop where
  ex : ∃ fI fd, Mk K C fI ∧ FnOk P w K mg base (L2.CX P w) k fI fd ps (spIO K N (n + 1) [0] fB) ∧ Binds K fd ps []
  g : mg x = some (.ref C)
structure MakeDef (K : PySem.W.Frag) (mg : Str → Option Value) (x qual : Str) (C : Addr) (st : Stmt) (kws : List (Str × L2.V)) : Prop where
  ex : ∃ fI fd, Mk K C fI ∧ FunD K "__init__" qual (defArgs st) (defBody st) (defScope st) [] kws fI fd
  g : mg x = some (.ref C)
section
variable {P : Program} {w : World} {K : PySem.W.Frag} {mg : Str → Option Value} {base : Heap} {N ps : List Str} {x qual : Str} {st : Stmt} {C : Addr} {k n : Nat} {fB : Env → Out}
theorem make_of (D : MakeDef K mg x qual C st []) (S : FnScope N ps (defScope st)) (hn : ps.length = n + 1)
    (hb : ∀ (kV doc pm : Value) (an : Option Addr) (cdv ct : Value) (us : List Value), us.length = ps.length → bindArgs (PySem.W.fnOf "__init__" qual (defArgs st) (defBody st) (defScope st) .none kV doc pm an cdv ct) ⟨us, []⟩ = pure (ps.zip us))
    (hB : ∀ (f : Addr) (cdv : Value) (A : Around) (outer : List PySem.Env) (s : Shared) (H : Hp) (E : XK), Room k (A.deeper (envOfC qual (defScope st) s.heap.objs.size f cdv)) →
      BX (cxOf (L2.CX P w) P w K mg base N qual (defScope st) f cdv A outer s H E) (WF E) ⟨[0], [], [0], false⟩ [0] [0] (defBody st) fB) : Make P w K mg base (k + 1) x C N ps n fB := by
  obtain ⟨fI, fd, M, F⟩ := D.ex
  refine ⟨⟨fI, fd, M, ?_, F.bindsN hb⟩, D.g⟩
  have := me_okIO F S (hB fI)
  rw [hn] at this
  exact this
end
section
variable {X : Cx} {W : WX} {V : List Nat} {e : Expr} {es : List Expr} {pos p : Pos} {x : Str} {ps N : List Str} {j k n : Nat} {C : Addr} {fB : Env → Out} {fa : Env → Rs (List PV)}
theorem o_mk (M : Make X.prog X.w X.K X.mg X.base k x C N ps n fB) (hr : Room j X.A) (tk : Takes X W) (fl : Flat W) (ha : AX X W V (e :: es) fa) (hN : n + 1 ≤ N.length := by decide) (hk : k + 1 ≤ j := by decide) (hg : Gl X x := by rfl) (hdb : (x == ("__debug__" : Str)) = false := by decide)
    (he : starEach (e :: es) X.env = (false, eval e X.env) :: starEach es X.env := by rfl) (hpl : (backTo pos (starEach es X.env)).any (·.1) = false := by rfl) : OX X W V (.Call (.Name x p) (e :: es) [] pos) (bMk C N n fB fa) := by
  obtain ⟨fI, fd, M1, F, b⟩ := M.ex
  exact o_make M1 F b M.g hN hr tk fl ha hk hg hdb he hpl
end
end Lh.P
set_option Elab.async false
set_option linter.all false
set_option maxRecDepth 100000
set_option maxHeartbeats 4000000
/-! More statements. -/
namespace Lh.P
open PySem PySem.Spec PyProof.Rows L2 _root_.SX
section
variable {X : Cx} {W : WX} {M : Md} {V O O' O1 T : List Nat} {e : Expr} {es : List Expr} {st : Stmt}
/-- a statement that is never reached -/
theorem s_dead : SX X W M O O' st (fun _ => .bad) := fun Z Γ σ H0 H D io E p => False.elim p
/-- a, b = e; what e reads stays changeable: e's worth holds nothing of it -/
def dUnpR (V O : List Nat) (g : PV → Env → Option Env) (f : Env → Rs PV) : Env → Out := fun Γ => outE (f Γ) Γ fun p => if sep V O Γ (away p) then (match g p Γ with
  | some Γ' => .next Γ'
  | none => .bad) else .bad
theorem s_unpR {f : Env → Rs PV} {t : TG} {g : PV → Env → Option Env} (ps : ∀ te, PE X e te → PS X st (tAsg te t)) (gt : GT X.K T t g) (he : EX X W V e f) (hO : ∀ j ∈ O', j ∈ O ∧ j ∉ T) (hI : ∀ j ∈ M.IO, j ∈ O') (ok : OkO M O) : SX X W M O O' st (dUnpR V O g f) := fun Z Γ σ H0 H D io E p => by
  refine PS.to (ps _ pe_of) ?_
  refine lend_post (V := V) (R := fun _ H => tOf X e σ H fun x H1 => t x σ H1 D.nx) io ok E p (fun j => j ∈ V) (fun j hj _ => hj) (fun H0p sh sm q => he Γ σ H0p H _ sh sm q) fun a H0' H' _ pn L v r => ?_
  split at pn
  · rename_i hs
    obtain ⟨_, _, H0'', E2, _, _, _, aw⟩ := L
    obtain ⟨H1, s1, _, E3⟩ := E2.freeze (fun j hj => (hO j hj).1) fun q hq => hI _ (io q hq)
    have r1 : Rep X.K H1 a v := Rep.mono s1 _ _ (aw a v (fun j hj hv q hq => by
      unfold sep at hs
      have := List.all_eq_true.mp hs j hj
      rw [if_pos hv, hq] at this
      exact this) r)
    cases hg : g a Γ with
    | none => rw [hg] at pn; exact False.elim pn
    | some Γ' =>
      rw [hg] at pn
      refine gt a v Γ σ H1 H' _ Γ' r1 E3.c hg fun u hu e => ?_
      have E4 := E3.puts (u := u) fun q hq => ⟨fun z => (hO _ z).2 (hu q hq).1, (hu q hq).2⟩
      rw [← e] at E4
      exact pn _ _ _ E4
  · exact False.elim pn
end
end Lh.P
set_option Elab.async false
set_option linter.all false
set_option maxRecDepth 100000
set_option maxHeartbeats 4000000
/-! A class with one keyword-only parameter that has a default. -/
namespace Lh.P
open PySem PySem.Spec PyProof.Rows L2 _root_.SX
/-- a class of the program; the last parameter is asked for by its name y, d stands for it if it lacks -/
structure MakeK (P : Program) (w : World) (K : PySem.W.Frag) (mg : Str → Option Value) (base : Heap) (k : Nat) (x : Str) (C : Addr) (N ps : List Str) (y : Str) (d : List Nat) (n : Nat) (fB : Env → Out) : Prop where
  ex : ∃ fI fd, Mk K C fI ∧ FnOk P w K mg base (L2.CX P w) k fI fd ps (spIO K N (n + 1) [0] fB) ∧ (∃ ds, Vals [.str (S d)] ds ∧ Binds K fd ps ds) ∧ KBn K fd ps n [y] (fun us ws => us ++ ws) (fun vs zs => vs ++ zs)
  g : mg x = some (.ref C)
section
variable {P : Program} {w : World} {K : PySem.W.Frag} {mg : Str → Option Value} {base : Heap} {N : List Str} {a b c y x qual : Str} {st : Stmt} {C : Addr} {k : Nat} {d : List Nat} {fB : Env → Out}
/-- self and two more parameters, one by keyword -/
theorem makeK_of (D : MakeDef K mg x qual C st [(y, .str (S d))]) (Sc : FnScope N [a, b, c, y] (defScope st))
    (hb : ∀ (Da : Addr) (doc pm : Value) (an : Option Addr) (cdv ct u v q r : Value), KwChain Da ((([] : List (Str × L2.V)).map (·.1)).zip []) (bindArgs (PySem.W.fnOf "__init__" qual (defArgs st) (defBody st) (defScope st) .none (.ref Da) doc pm an cdv ct) ⟨[u, v, q], [y].zip [r]⟩) ([a, b, c, y].zip [u, v, q, r]))
    (hd : ∀ (Da : Addr) (doc pm : Value) (an : Option Addr) (cdv ct u v q r : Value), KwChain Da [(y, r)] (bindArgs (PySem.W.fnOf "__init__" qual (defArgs st) (defBody st) (defScope st) .none (.ref Da) doc pm an cdv ct) ⟨[u, v, q], []⟩) ([a, b, c, y].zip [u, v, q, r]))
    (hB : ∀ (f : Addr) (cdv : Value) (A : Around) (outer : List PySem.Env) (s : Shared) (H : Hp) (E : XK), Room k (A.deeper (envOfC qual (defScope st) s.heap.objs.size f cdv)) →
      BX (cxOf (L2.CX P w) P w K mg base N qual (defScope st) f cdv A outer s H E) (WF E) ⟨[0], [], [0], false⟩ [0] [0] (defBody st) fB) : MakeK P w K mg base (k + 1) x C N [a, b, c, y] y d 3 fB := by
  obtain ⟨fI, fd, M, F⟩ := D.ex
  obtain ⟨mv, kb⟩ := F.kbinds0 3 [y] [] (fun us _ ws => us ++ ws) (by simp) (by simp) (fun a _ b => a.append b) (fun D doc pm an cdv ct us mv ws h1 h2 h3 => by
    match us, ws, mv, h1, h3, h2 with
    | [u, v, q], [r], [], _, _, _ => exact hb D doc pm an cdv ct u v q r)
  obtain ⟨ds, h1, h2⟩ := F.binds0 3 (by simp) rfl (fun D doc pm an cdv ct us ks h1 h2 => by
    match us, ks, h1, h2 with
    | [u, v, q], [r], _, _ => exact hd D doc pm an cdv ct u v q r)
  exact ⟨⟨fI, fd, M, me_okIO F Sc (hB fI), ⟨ds, h1, h2⟩, kb⟩, D.g⟩
end
abbrev bMkD (C : Addr) (N : List Str) (n : Nat) (f : Env → Out) (d : List Nat) (fa : Env → Rs (List PV)) : Env → Rs PV := bC fa fun qs => initR C N n f (qs ++ [.str d])
abbrev bMkK (C : Addr) (N : List Str) (n : Nat) (f : Env → Out) (fa : Env → Rs (List PV)) (fk : Env → Rs PV) : Env → Rs PV := fun Γ => (fa Γ).bind fun qs => (fk Γ).bind fun r => initR C N n f (qs ++ [r])
section
variable {X : Cx} {W : WX} {V : List Nat} {e e2 e3 : Expr} {es : List Expr} {pos p kpos : Pos} {x y : Str} {ps N : List Str} {j k n : Nat} {C : Addr} {d : List Nat} {fB : Env → Out} {fa : Env → Rs (List PV)} {fk : Env → Rs PV}
theorem initR_n {qs : List PV} {r : PV} {K : PySem.W.Frag} {σ : L2.St} {H0 H : Hp} {good : PV → Hp → Hp → Prop} (q : Post K W σ good H0 H (initR C N n fB (qs ++ [r]))) : qs.length + 1 = n := by
  unfold initR at q
  split at q
  · rename_i h; rw [List.length_append] at h; exact h
  · exact False.elim q
theorem o_mkD (M : MakeK X.prog X.w X.K X.mg X.base k x C N ps y d n fB) (hr : Room j X.A) (tk : Takes X W) (fl : Flat W) (ha : AX X W V (e :: es) fa) (hN : n + 1 ≤ N.length := by decide) (hk : k + 1 ≤ j := by decide) (hg : Gl X x := by rfl) (hdb : (x == ("__debug__" : Str)) = false := by decide)
    (he : starEach (e :: es) X.env = (false, eval e X.env) :: starEach es X.env := by rfl) (hpl : (backTo pos (starEach es X.env)).any (·.1) = false := by rfl) : OX X W V (.Call (.Name x p) (e :: es) [] pos) (bMkD C N n fB d fa) := fun Γ σ H0 H Q sh sm q => by
  obtain ⟨fI, fd, M1, F, ⟨ds, h1, h2⟩, kb⟩ := M.ex
  refine PE.to (pe_make (E := WA W) M1 F (hr.mono hk) hg M.g h2 h1 (passes_call tk fun _ _ σ _ h => h σ) pa_of hdb he hpl) ?_
  exact ha Γ σ H0 H _ sh sm (q.step.mono fun qs H1 H2 g q1 vs rs a dx hx hd ne => make_sp fl hN (Reps.app rs (show Reps X.K H1 [.str d] [.str (S d)] from ⟨rfl, trivial⟩)) g.c g.b hx hd ne q1)
theorem o_mkK (M : MakeK X.prog X.w X.K X.mg X.base k x C N ps y d 3 fB) (hr : Room j X.A) (tk : Takes X W) (fl : Flat W) (ha : AX X W V [e, e2] fa) (hkw : EX X W V e3 fk) (hN : 3 + 1 ≤ N.length := by decide) (hk : k + 1 ≤ j := by decide) (hg : Gl X x := by rfl) (hdb : (x == ("__debug__" : Str)) = false := by decide)
    (hall : (backToKw pos (keywordEach [⟨some y, e3, kpos⟩] X.env)).all (·.1.isSome) = true := by rfl) (hks : (backToKw pos (keywordEach [⟨some y, e3, kpos⟩] X.env)).filterMap (·.1) = [y] := by rfl)
    (he : starEach [e, e2] X.env = (false, eval e X.env) :: starEach [e2] X.env := by rfl) (hpl : ((backTo pos (starEach [e, e2] X.env)).any (·.1) || (backToKw pos (keywordEach [⟨some y, e3, kpos⟩] X.env)).any (·.1.isNone)) = false := by rfl) : OX X W V (.Call (.Name x p) [e, e2] [⟨some y, e3, kpos⟩] pos) (bMkK C N 3 fB fa fk) := fun Γ σ H0 H Q sh sm q => by
  obtain ⟨fI, fd, M1, F, hds, kb⟩ := M.ex
  refine PE.to (pe_makeK (n := 2) (E := WA W) M1 F (hr.mono hk) hg M.g kb (passes_call tk fun _ _ σ _ h => h σ) pa_of (pk_cons pe_of pk_nil) hall hks hdb he hpl) ?_
  refine ha Γ σ H0 H _ sh sm (q.step.mono fun qs H1 H2 g q1 vs rs => ?_)
  refine hkw Γ σ H1 H2 _ (sh.mono g.a) g.c (q1.step.mono fun r H3 H4 g2 q2 v rv => ?_)
  have hn := initR_n q2
  refine ⟨by rw [rs.len]; omega, rfl, fun a dx hx hd ne => ?_⟩
  exact make_sp fl hN (Reps.app (Reps.mono g2.a _ _ rs) (show Reps X.K H3 [r] [v] from ⟨rv, trivial⟩)) g2.c (g.b.trans g2.b) hx hd ne q2
end
end Lh.P
set_option Elab.async false
set_option linter.all false
set_option maxRecDepth 100000
set_option maxHeartbeats 4000000
/-! Errors of the program: how they are raised, what leaves a def. -/
namespace Lh
open PySem PySem.Spec PyProof.Rows L2 SX SkE
/-- an own class over ValueError, directly or by way of another -/
structure ExcC (K : PySem.W.Frag) (mg : Str → Option Value) (x : Str) (C : Addr) : Prop where
  g : mg x = some (.ref C)
  ex : PySem.W.excIn K C He.veBase "ValueError.__new__" = true
  kp : PySem.W.keepIn K (.ref C) = true
  sb : PySem.W.subIn K (.ref C) (.type "BaseException") = some true
  ty : PySem.W.typeIn K (.ref C) = some (.type "type")
section
variable {X : Cx} {x : Str} {ps : List Str} {j k : Nat} {sp : Sp} {e : Expr} {es : List Expr} {p pos : Pos} {t : TA}
/-- f(a, ..), in a def that lets out what f lets out -/
theorem pclX {E : XK} (C : Cal X.prog X.w X.K X.mg X.base (L2.CX X.prog X.w) k x ps sp) (hr : Room j X.A) (tk : Takes X (fun cls d _ H => E cls d H)) (ha : PA X (e :: es) t) (hk : k ≤ j := by decide) (hg : Gl X x := by rfl) (hdb : (x == ("__debug__" : Str)) = false := by decide)
    (he : starEach (e :: es) X.env = (false, eval e X.env) :: starEach es X.env := by rfl) (hpl : (backTo pos (starEach es X.env)).any (·.1) = false := by rfl) :
    PE X (.Call (.Name x p) (e :: es) [] pos) (tCall sp [] E t) := by
  obtain ⟨f, fd, F, g, kp, b⟩ := C.ex
  exact pe_call F (hr.mono hk) hg g kp b .nil (passes_call tk fun _ _ _ _ h => h) ha hdb he hpl
/-- f(a, ..), within a try -/
theorem pclS {W : WX} (C : Cal X.prog X.w X.K X.mg X.base (L2.CX X.prog X.w) k x ps sp) (hr : Room j X.A) (tk : Takes X W) (ha : PA X (e :: es) t) (hk : k ≤ j := by decide) (hg : Gl X x := by rfl) (hdb : (x == ("__debug__" : Str)) = false := by decide)
    (he : starEach (e :: es) X.env = (false, eval e X.env) :: starEach es X.env := by rfl) (hpl : (backTo pos (starEach es X.env)).any (·.1) = false := by rfl) :
    PE X (.Call (.Name x p) (e :: es) [] pos) (tCallS sp (WE W) t) := by
  obtain ⟨f, fd, F, g, kp, b⟩ := C.ex
  exact pe_callS F (hr.mono hk) hg g kp b (fun σ => passAt tk σ) ha hdb he hpl
/-- raise X(e) -/
theorem ps_raiseC {C : Addr} {pos' : Pos} {W : WX} {te : TE} (c : ExcC X.K X.mg x C) (hc : X.calm = true) (tk : Takes X W) (he : PE X e te) (hg : Gl X x := by rfl) (hs : starEach [e] X.env = (false, eval e X.env) :: starEach [] X.env := by rfl) (hdb : (x == ("__debug__" : Str)) = false := by decide) :
    PS X (.Raise (some (.Call (.Name x p) [e] [] pos)) none pos') (fun _ σ H => te σ H fun _ H1 => W (.ref C) none σ H1) :=
  ps_raise hc tk (pmk_own1 PySem.F.excBase_ValueError c.ex c.g c.kp (raises_own c.sb c.ty) hg he hs hdb)
end
end Lh
set_option Elab.async false
set_option linter.all false
set_option maxRecDepth 100000
set_option maxHeartbeats 4000000
/-! isinstance of a caught error, whatever own class it has; one class or a tuple of classes. -/
namespace Lh
open PySem PySem.Spec PyProof.Rows L2
def rIsV (K : PySem.W.Frag) (cls : Value) (d : Option Addr) (a : Addr) : List V → Hp → VK → Prop := fun xs H Q => ∃ (D : Addr) (c : V) (cv : Value) (b : Bool), cls = .ref D ∧ d = none ∧ L2.ExcC K D ∧ xs = [.ref a, c] ∧ ClsV c cv ∧ PySem.W.kitOne K (.ref D) cv = some b ∧ Q (.bl b) H
theorem call_isV {X : Cx} {a : Addr} {oe : Obj} {pn : List (Addr × Obj)} {cls : Value} {d : Option Addr} (hz : Zc cls d oe) (hf : ∃ vs, oe.data = .fields vs) : CallR (X.suite a ((a, oe) :: pn)) (.builtin "isinstance") (rIsV X.K cls d a) := by
  intro pins s σ H xs us Q I r h
  obtain ⟨D, c, cv, b, rfl, rfl, C, rfl, k, e, q⟩ := h
  exact call_isE C hz hf pins s σ H _ us Q I r ⟨c, cv, b, rfl, fun u r => k.eq r, e, q⟩
def rIsVT (K : PySem.W.Frag) (cls : Value) (d : Option Addr) (a : Addr) : List V → Hp → VK → Prop := fun xs H Q => ∃ (D tp : Addr) (cs : List V) (ws : List Value) (b : Bool), cls = .ref D ∧ d = none ∧ L2.ExcC K D ∧ xs = [.ref a, .ref tp] ∧ H tp = some (.tup cs) ∧ Paired ClsV cs ws ∧ PySem.W.kitAny K (.ref D) ws = some b ∧ Q (.bl b) H
/-- what the heap has of a caught error of the class at D -/
theorem inst_at {X : Cx} {pins : List (Addr × Obj)} {σ : L2.St} {H : Hp} {s : Shared} {a D : Addr} {oe : Obj} {pn : List (Addr × Obj)} (I : Inv (X.suite a ((a, oe) :: pn)) pins σ H s) (hz : Zc (.ref D) none oe) (hf : ∃ vs, oe.data = .fields vs) : PySem.W.InstAt s.heap a oe D none :=
  ⟨(I.pin (a, oe) (by simp [Cx.suite])).1, hz.1, hf.elim fun vs e => by unfold PySem.W.notCls; rw [e], by rw [show oe.dict = none from hz.2]; trivial⟩
theorem call_isVT {X : Cx} {a : Addr} {oe : Obj} {pn : List (Addr × Obj)} {cls : Value} {d : Option Addr} (hz : Zc cls d oe) (hf : ∃ vs, oe.data = .fields vs) : CallR (X.suite a ((a, oe) :: pn)) (.builtin "isinstance") (rIsVT X.K cls d a) := fun pins s σ H xs us Q I r h => by
  obtain ⟨D, tp, cs, ws, b, hD, hd, C, hx, hT, k, e, q⟩ := h
  subst hD hd hx
  have hu : us = [.ref a, .ref tp] := by
    obtain ⟨u, v, e1, e2, e3⟩ := vals2 r
    rw [e1, show u = Value.ref a from e2, show v = Value.ref tp from e3]
  rw [hu]
  obtain ⟨its, rv, ⟨o, hg, ho, n, hi⟩, _⟩ := I.tuple (SqT.of hT)
  have kit := PySem.W.handS_kitx_exc (x := a) (ox := oe) C.hg C.hk C.hs C.hd C.ha C.hn C.ht C.hm
  have ht : s.heap.get? tp = some ⟨.type "tuple", o.dict, .seq ws.toArray n, o.slots⟩ := by
    rw [hg, ← ClsV.all k rv, ← ho, ← hi]
  exact PySem.W.kia_tup kit I.kIn (inst_at I hz hf) ht e nofun fun t => ⟨.bl b, H, I.kept (t' := t) fun _ _ z => z, rfl, q⟩
end Lh
set_option Elab.async false
set_option linter.all false
set_option maxRecDepth 100000
set_option maxHeartbeats 4000000
/-! try, except. -/
namespace Lh.P
open PySem PySem.Spec PyProof.Rows L2 _root_.SX
/-- the errors' names -/
def errN : List Str := ["HouseError", "InvalidHouse", "BadDeed", "InvalidText", "NotPossible", "Refused", "InvalidStanding", "UnknownPart", "UnlikeHands", "WrongTrades", "NoDoors", "NotEven", "NotOdd", "NotTree", "NotStrict", "NotSwift", "TooFewHands", "NoPair", "NoCrew", "NoMaster", "NotTogether", "NotThere", "BadSteps", "NotDead", "NotLive", "NotRooted"]
/-- what a class's name stands for -/
def clsV (A : Ad) (x : Str) : L2.V := if x = "ValueError" then .ty "ValueError" else .ref (A x)
def cvOf (A : Ad) (x : Str) : Value := if x = "ValueError" then .type "ValueError" else .ref (A x)
/-- how the errors' classes lie to each other, as the text's head tells it -/
structure Errs (K : PySem.W.Frag) (mg : Str → Option Value) (A : Ad) : Prop where
  g : ∀ x ∈ errN, mg x = some (.ref (A x))
  ve : mg "ValueError" = none
  isa : ∀ C x b, A.isa C x = some b → PySem.W.exmOne K (.ref C) (.ref (A x)) = some b
  ins : ∀ C ns b, A.ins C ns = some b → L2.ExcC K C ∧ PySem.W.kitAny K (.ref C) (ns.map (cvOf A)) = some b
  fld : ∀ C n, A.fld C n = true → L2.XfC K C ∧ PySem.W.findIn K (.ref C) n = some none
/-- no error flies out of a suite -/
def noX : Out → Out
  | .exc _ _ _ => .bad
  | o => o
/-- the slot of the caught error is empty behind its suite -/
def stripO (i : Nat) : Out → Out
  | .next Γ => .next (Γ.set i none)
  | .ret p Γ => .ret p (Γ.set i none)
  | .brk Γ => .brk (Γ.set i none)
  | .cont Γ => .cont (Γ.set i none)
  | .exc _ _ _ => .bad
  | .bad => .bad
/-- the clauses, one after the other -/
def hdl (A : Ad) : List (Str × (Env → Out)) → Addr → List (Str × PV) → Env → Out
  | [], C, fs, Γ => .exc C fs Γ
  | (x, g) :: r, C, fs, Γ => match A.isa C x with
    | some true => noX (g Γ)
    | some false => hdl A r C fs Γ
    | none => .bad
def dTry (A : Ad) (f : Env → Out) (hs : List (Str × (Env → Out))) : Env → Out := fun Γ => match f Γ with
  | .exc C fs Γ' => hdl A hs C fs Γ'
  | o => o
open Classical in
/-- except x as n: the suite's worth hangs not on where the error lies -/
noncomputable def dTryAs (A : Ad) (i : Nat) (x : Str) (f : Env → Out) (g : Addr → Addr → Env → Out) : Env → Out := fun Γ => match f Γ with
  | .exc C fs Γ' => (match A.isa C x with
    | some true => if fs = [] ∧ ∀ a, stripO i (g a C (Γ'.set i (some (.exr a C none [])))) = stripO i (g 0 C (Γ'.set i (some (.exr 0 C none [])))) then stripO i (g 0 C (Γ'.set i (some (.exr 0 C none [])))) else .bad
    | some false => .exc C fs Γ'
    | none => .bad)
  | o => o
section
variable {K : PySem.W.Frag} {Z : Zn} {M : Md} {O O' : List Nat} {D : Ends} {H0 H : Hp} {Γ : Env} {σ : L2.St} {i : Nat}
theorem PostS.noX {W : WX} : ∀ {o : Out}, PostS K W Z M O D (noX o) → PostS K W0 Z M O D o
  | .next _, p => p
  | .ret _ _, p => p
  | .brk _, p => p
  | .cont _, p => p
  | .exc _ _ _, p => False.elim p
  | .bad, p => p
theorem EnvOk.unset (E : EnvOk K Z O H0 H Γ σ) (hi : i ∉ O) : EnvOk K Z O H0 H (Γ.set i none) (σ.set i none) := by
  obtain ⟨ρ, h1, h2⟩ := E.own
  have old : ∀ {j p}, (Γ.set i none)[j]? = some (some p) → j ≠ i ∧ Γ[j]? = some (some p) := fun {j p} h => by
    rcases getE_set h with ⟨_, e⟩ | h
    · cases e
    · exact h
  refine ⟨by rw [List.length_set, List.length_set]; exact E.len, E.a, E.b, E.c, E.d, fun j q hq hj => ?_, ρ, fun j hj q hq sq => ?_, fun q hq => ?_⟩
  · obtain ⟨hn, hq⟩ := old hq
    obtain ⟨v, k1, k2⟩ := E.vals j q hq hj
    exact ⟨v, by rw [List.getElem?_set_ne hn.symm]; exact k1, k2⟩
  · obtain ⟨hn, hq⟩ := old hq
    obtain ⟨k1, k2, k3, k4, k5⟩ := h1 j hj q hq sq
    exact ⟨by rw [List.getElem?_set_ne hn.symm]; exact k1, k2, k3, k4, fun l hl hne ⟨z, hz, sz⟩ => k5 l hl hne ⟨z, (old hz).2, sz⟩⟩
  · obtain ⟨k1, k2, p, k3, sp⟩ := h2 q hq
    exact ⟨k1, k2, p, by rw [List.getElem?_set_ne fun z => hi (by rw [z]; exact k1)]; exact k3, sp⟩
/-- behind a suite with a name -/
theorem PostS.strip {W : WX} (h1 : i ∉ O') (h2 : i ∉ M.IO) (h3 : i ∉ M.OL) : ∀ {o : Out}, PostS K W Z M O' D (stripO i o) →
    PostS K W0 Z M O' { nx := fun σ' H' => D.nx (σ'.set i none) H', rt := D.rt, bk := fun σ' H' => D.bk (σ'.set i none) H', ct := fun σ' H' => D.ct (σ'.set i none) H' } o
  | .next _, p => fun σ H0 H E => p _ _ _ (E.unset h1)
  | .ret q Γ, p => by
    have p : if M.R then _ else _ := p
    show if M.R then _ else _
    split at p
    · rename_i hr
      rw [if_pos hr]
      exact ⟨fun s v σ H0 H E => p.1 s v _ _ _ (E.unset h2), fun a σ H0 H E => p.2 a _ _ _ (E.unset h2)⟩
    · rename_i hr
      rw [if_neg hr]
      exact fun v σ H0 H E => p v _ _ _ (E.unset h2)
  | .brk _, p => fun σ H0 H E => p _ _ _ (E.unset h3)
  | .cont _, p => fun σ H0 H E => p _ _ _ (E.unset h3)
  | .exc _ _ _, p => False.elim p
  | .bad, p => p
end
section
variable {X : Cx} {W : WX} {M : Md} {V O O' : List Nat} {body suite : List Stmt} {b₀ : Stmt} {pos pos' np : Pos} {x n : Str} {i : Nat} {A : Ad}
/-- the body's reading, in whatever try -/
def tbOf (X : Cx) (body : List Stmt) (W : WX) : TS := fun D σ H => ∀ (pn : List (Addr × Obj)) (xe : Value → Shared → Prop), Takes (X.tr pn xe) W → PassesOwn (model X.prog X.w) X.A X.env xe → tssOf (X.tr pn xe) body D σ H
def tsuOf (X : Cx) (suite : List Stmt) (a : Addr) (cls : Value) (d : Option Addr) : TS := fun D σ H => ∀ (oe : Obj) (pn : List (Addr × Obj)), Zc cls d oe → (∃ vs, oe.data = .fields vs) → tssOf (X.suite a ((a, oe) :: pn)) suite D σ H
theorem tb_ok : ∀ (W : WX) (pn : List (Addr × Obj)) (xe : Value → Shared → Prop), Takes (X.tr pn xe) W → PassesOwn (model X.prog X.w) X.A X.env xe → PSs (X.tr pn xe) body (tbOf X body W) := fun W pn xe tk pa => ⟨fun pins s σ H D I h => h pn xe tk pa pins s I⟩
theorem ts_ok : ∀ (a : Addr) (oe : Obj) (cls : Value) (d : Option Addr) (pn : List (Addr × Obj)), Zc cls d oe → (∃ vs, oe.data = .fields vs) → PSs (X.suite a ((a, oe) :: pn)) suite (tsuOf X suite a cls d) := fun a oe cls d pn hz hf => ⟨fun pins s σ H D I h => h oe pn hz hf pins s I⟩
/-- the clauses, none of which gives the error a name -/
inductive Hds (X : Cx) (M : Md) (O O' : List Nat) (A : Ad) : List ExceptHandler → List (Str × (Env → Out)) → Prop
  | nil : Hds X M O O' A [] []
  | cons {x : Str} {g : Env → Out} {b₀ : Stmt} {suite : List Stmt} {np pos' : Pos} {hds : List ExceptHandler} {l : List (Str × (Env → Out))} (hc : Names X x (.ref (A x)))
      (h : ∀ (a : Addr) (oe : Obj) (cls : Value) (d : Option Addr) (pn : List (Addr × Obj)), Zc cls d oe → (∃ vs, oe.data = .fields vs) → BX (X.suite a ((a, oe) :: pn)) W0 M O O' (b₀ :: suite) g) (r : Hds X M O O' A hds l) :
      Hds X M O O' A (.ExceptHandler (some (.Name x np)) none (b₀ :: suite) pos' :: hds) ((x, g) :: l)
theorem Hds.ok {hds : List ExceptHandler} {l : List (Str × (Env → Out))} (h : Hds X M O O' A hds l) (hE : Errs X.K X.mg A) : ∃ l', HdsOk X hds l' ∧ ∀ (Z : Zn) (D : Ends) (C : Addr) (fs : List (Str × PV)) (Γ : Env) (d : Option Addr) (σ : L2.St) (H0 H : Hp), ioOk Z M → EnvOk X.K Z O H0 H Γ σ → PostS X.K W Z M O' D (hdl A l C fs Γ) →
    (∀ Γ, PostS X.K W Z M O' D (.exc C fs Γ) → EnvOk X.K Z O H0 H Γ σ → W (.ref C) d σ H) → wMany X.K W D l' (.ref C) d σ H := by
  induction h with
  | nil => exact ⟨[], .nil, fun Z D C fs Γ d σ H0 H io E p k => k Γ p E⟩
  | @cons x g b₀ suite np pos' hds l hc hb r ih =>
    obtain ⟨l', h1, h2⟩ := ih
    refine ⟨(.ref (A x), tsuOf X (b₀ :: suite)) :: l', .cons hc ts_ok h1, fun Z D C fs Γ d σ H0 H io E p k => ?_⟩
    have p : PostS X.K W Z M O' D (match A.isa C x with
      | some true => noX (g Γ)
      | some false => hdl A l C fs Γ
      | none => .bad) := p
    cases hi : A.isa C x with
    | none => rw [hi] at p; exact False.elim p
    | some b =>
      refine ⟨b, hE.isa C x b hi, fun hb1 a na oe pn hz hf => ?_, fun hb1 => ?_⟩
      · subst hb1
        rw [hi] at p
        exact hb a oe _ d pn hz hf Z Γ σ H0 H D io E p.noX
      · subst hb1
        rw [hi] at p
        exact h2 Z D C fs Γ d σ H0 H io E p k
theorem s_try {h₀ : ExceptHandler} {hds : List ExceptHandler} {l : List (Str × (Env → Out))} {f : Env → Out} (hE : Errs X.K X.mg A) (tk : Takes X W)
    (hB : ∀ (W' : WX) (pn : List (Addr × Obj)) (xe : Value → Shared → Prop), Takes (X.tr pn xe) W' → PassesOwn (model X.prog X.w) X.A X.env xe → BX (X.tr pn xe) W' M O O' body f)
    (hh : Hds X M M.OX O' A (h₀ :: hds) l) (hs : X.stack = X.env :: X.outer := by rfl) (hf : X.env.frame = some X.env.locals := by rfl) : SX X W M O O' (.Try body (h₀ :: hds) [] [] pos) (dTry A f l) := fun Z Γ σ H0 H D io E p => by
  obtain ⟨l', h1, h2⟩ := hh.ok (W := W) hE
  refine PS.to (ps_try_many hs hf tk tb_ok h1) ?_
  intro pn xe tk2 pa
  refine hB _ pn xe tk2 pa Z Γ σ H0 H D io E ?_
  have p : PostS X.K W Z M O' D (match f Γ with
    | .exc C fs Γ' => hdl A l C fs Γ'
    | o => o) := p
  show PostS X.K _ Z M O' D (f Γ)
  cases hf : f Γ with
  | exc C fs Γ' =>
    rw [hf] at p
    exact fun d σ' H0' H' E' rx => h2 Z D C fs Γ' d σ' H0' H' io E' p fun Γ2 q E2 => q d σ' H0' H' E2 rx
  | _ => rw [hf] at p; exact p
theorem s_tryAs {f : Env → Out} {g : Addr → Addr → Env → Out} (hE : Errs X.K X.mg A) (hN : X.N.Nodup) (hi : X.N[i]? = some n) (hln : X.env.kindOf n = some .local) (hc : Names X x (.ref (A x))) (tk : Takes X W)
    (hB : ∀ (W' : WX) (pn : List (Addr × Obj)) (xe : Value → Shared → Prop), Takes (X.tr pn xe) W' → PassesOwn (model X.prog X.w) X.A X.env xe → BX (X.tr pn xe) W' M O O' body f)
    (hh : ∀ (a C : Addr) (oe : Obj) (pn : List (Addr × Obj)), Zc (.ref C) none oe → (∃ vs, oe.data = .fields vs) → BX (X.suite a ((a, oe) :: pn)) W0 M M.OX O' (b₀ :: suite) (g a C))
    (i1 : i ∉ O') (i2 : i ∉ M.IO) (i3 : i ∉ M.OL) (i4 : i ∉ M.OX) (hs : X.stack = X.env :: X.outer := by rfl) (hf : X.env.frame = some X.env.locals := by rfl) : SX X W M O O' (.Try body [.ExceptHandler (some (.Name x np)) (some n) (b₀ :: suite) pos'] [] [] pos) (dTryAs A i x f g) := fun Z Γ σ H0 H D io E p => by
  refine PS.to (ps_try_as hs hf hN hi hln hc tk tb_ok ts_ok) ?_
  intro pn xe tk2 pa
  refine hB _ pn xe tk2 pa Z Γ σ H0 H D io E ?_
  show PostS X.K _ Z M O' D (f Γ)
  unfold dTryAs at p
  cases hf : f Γ with
  | exc C fs Γ' =>
    rw [hf] at p
    dsimp only at p
    intro d σ' H0' H' E' rx
    cases ha : A.isa C x with
    | none => rw [ha] at p; exact False.elim p
    | some b =>
      rw [ha] at p
      refine ⟨b, hE.isa C x b ha, fun hb1 a na oe pn hz hfl => ?_, fun hb1 => ?_⟩
      · subst hb1
        dsimp only at p
        split at p
        · rename_i hc
          obtain ⟨e0, e1⟩ := hc
          subst e0
          have ed : d = none := by
            rcases rx with h | ⟨dx, gs, e, h1, h2, h3⟩
            · exact h.2
            · exact absurd rfl h3
          subst ed
          rw [← e1 a] at p
          exact hh a C oe pn hz hfl Z _ _ H0' H' _ io (E'.put i4 (show Rep X.K H0' (.exr a C none []) (.ref a) from ⟨rfl, .inl ⟨rfl, rfl⟩⟩)) (p.strip i1 i2 i3)
        · exact False.elim p
      · subst hb1
        exact p d σ' H0' H' E' rx
  | _ => rw [hf] at p; exact p
end
end Lh.P
set_option Elab.async false
set_option linter.all false
set_option maxRecDepth 100000
set_option maxHeartbeats 4000000
/-! isinstance of a caught error. -/
namespace Lh.P
open PySem PySem.Spec PyProof.Rows L2 _root_.SX
def tCls (A : Ad) (ns : List Str) : TA := fun _ H Q => Q (ns.map (clsV A)) H
theorem cls_cv {A : Ad} {x : Str} : ClsV (clsV A x) (cvOf A x) := by
  unfold clsV cvOf
  by_cases h : x = "ValueError"
  · rw [if_pos h, if_pos h]; exact .ty _
  · rw [if_neg h, if_neg h]; exact .own _
theorem cls_all {A : Ad} : ∀ (ns : List Str), Paired ClsV (ns.map (clsV A)) (ns.map (cvOf A))
  | [] => .nil
  | _ :: ns => .cons cls_cv (cls_all ns)
theorem errN_ve : ∀ x ∈ errN, x ≠ "ValueError" := by decide +kernel
section
variable {X : Cx} {A : Ad} {x : Str} {ns : List Str} {e : Expr} {es : List Expr} {pos : Pos}
theorem cls_own (hE : Errs X.K X.mg A) (hx : x ∈ errN := by decide +kernel) (hg : Gl X x := by rfl) (hd : (x == ("__debug__" : Str)) = false := by decide) : PE X (.Name x pos) (tC (clsV A x)) := by
  unfold clsV
  rw [if_neg (errN_ve x hx)]
  exact pe_glob hg (hE.g x hx) rfl hd
theorem cls_ve (hE : Errs X.K X.mg A) (hg : Gl X "ValueError" := by rfl) : PE X (.Name "ValueError" pos) (tC (clsV A "ValueError")) := by
  unfold clsV
  rw [if_pos rfl]
  exact pe_bltn hg hE.ve (by decide +kernel) rfl
theorem ka_nil : PA X [] (tCls A []) := pa_nil
theorem ka_cons (h : PE X e (tC (clsV A x))) (r : PA X es (tCls A ns)) (hst : starEach (e :: es) X.env = (false, eval e X.env) :: starEach es X.env := by rfl) : PA X (e :: es) (tCls A (x :: ns)) := pa_cons h r hst
/-- isinstance(e, one of ns), e the error that was caught -/
def pIsE (A : Ad) (a C : Addr) (ns : List Str) : PV → Rs PV
  | .exr b D none [] => if b = a ∧ D = C then (match A.ins C ns with
    | some k => .ok (.bl k)
    | none => .bad) else .bad
  | _ => .bad
theorem pIsE_of {K : PySem.W.Frag} {W : WX} {σ : L2.St} {good : PV → Hp → Hp → Prop} {H0 H : Hp} {a C : Addr} : ∀ {x : PV}, Post K W σ good H0 H (pIsE A a C ns x) → x = .exr a C none [] ∧ ∃ k, A.ins C ns = some k ∧ Post K W σ good H0 H (.ok (.bl k))
  | .exr b D none [], q => by
    have q : Post K W σ good H0 H (if b = a ∧ D = C then (match A.ins C ns with
      | some k => .ok (.bl k)
      | none => .bad) else .bad) := q
    obtain ⟨⟨e1, e2⟩, q3⟩ := post_if q
    clear q
    subst e1 e2
    refine ⟨rfl, ?_⟩
    cases hi : A.ins D ns with
    | none => rw [hi] at q3; exact False.elim q3
    | some k => rw [hi] at q3; exact ⟨k, rfl, q3⟩
  | .exr _ _ (some _) _, q => False.elim q
  | .exr _ _ none (_ :: _), q => False.elim q
  | .non, q => False.elim q
  | .bl _, q => False.elim q
  | .int _, q => False.elim q
  | .str _, q => False.elim q
  | .tup _, q => False.elim q
  | .lst _, q => False.elim q
  | .ins _ _, q => False.elim q
  | .scr _, q => False.elim q
theorem kit_one {K : PySem.W.Frag} {t c : Value} {b : Bool} (h : PySem.W.kitAny K t [c] = some b) : PySem.W.kitOne K t c = some b := by
  unfold PySem.W.kitAny at h
  cases hk : PySem.W.kitOne K t c with
  | none => rw [hk] at h; exact h
  | some k => rw [hk] at h; cases k with
    | true => exact h
    | false => exact h
end
section
variable {X : Cx} {W : WX} {V : List Nat} {A : Ad} {a C : Addr} {oe : Obj} {pn : List (Addr × Obj)} {e e2 : Expr} {es : List Expr} {fe : Env → Rs PV} {p2 pos tpos : Pos} {k : Nat} {y : Str} {ns : List Str}
theorem x_isE (hE : Errs X.K X.mg A) (hz : Zc (.ref C) none oe) (hf : ∃ vs, oe.data = .fields vs) (hm : X.mg "isinstance" = none) (he : EX (X.suite a ((a, oe) :: pn)) W V e fe) (hv : PE (X.suite a ((a, oe) :: pn)) e2 (tC (clsV A y))) (hg : Gl (X.suite a ((a, oe) :: pn)) "isinstance" := by rfl)
    (hst : starEach [e, e2] X.env = (false, eval e X.env) :: starEach [e2] X.env := by rfl) (hst2 : starEach [e2] X.env = (false, eval e2 X.env) :: starEach [] X.env := by rfl) (hpl : (backTo pos (starEach [e2] X.env)).any (·.1) = false := by rfl) : EX (X.suite a ((a, oe) :: pn)) W V (.Call (.Name "isinstance" p2) [e, e2] [] pos) (b1 fe (pIsE A a C [y])) := fun Γ σ H0 H Q sh sm q => by
  refine PE.to (pe_callB (call_isV hz hf) hg hm (by decide +kernel) (pa_cons pe_of (pa_cons hv pa_nil hst2) hst) (he := hst) (hpl := hpl)) (he Γ σ H0 H _ sh sm (q.step.mono fun x H1 H2 g1 q1 v r => ?_))
  obtain ⟨ex, k, hi, q2⟩ := pIsE_of (A := A) (a := a) (C := C) (ns := [y]) q1
  subst ex
  have hv : v = .ref a := r.1
  subst hv
  obtain ⟨h1, h2⟩ := hE.ins C [y] k hi
  exact ⟨C, _, _, k, rfl, rfl, h1, rfl, cls_cv, kit_one h2, pV g1.c q2 rfl⟩
theorem x_isEs (hE : Errs X.K X.mg A) (hz : Zc (.ref C) none oe) (hf : ∃ vs, oe.data = .fields vs) (hm : X.mg "isinstance" = none) (he : EX (X.suite a ((a, oe) :: pn)) W V e fe) (hv : PA (X.suite a ((a, oe) :: pn)) es (tCls A ns)) (hl : ns.length ≤ 1000 := by decide) (hg : Gl (X.suite a ((a, oe) :: pn)) "isinstance" := by rfl)
    (hst : starEach [e, .Tuple es k tpos] X.env = (false, eval e X.env) :: starEach [.Tuple es k tpos] X.env := by rfl) (hst2 : starEach [.Tuple es k tpos] X.env = (false, eval (.Tuple es k tpos) X.env) :: starEach [] X.env := by rfl) (hpl : (backTo pos (starEach [.Tuple es k tpos] X.env)).any (·.1) = false := by rfl) : EX (X.suite a ((a, oe) :: pn)) W V (.Call (.Name "isinstance" p2) [e, .Tuple es k tpos] [] pos) (b1 fe (pIsE A a C ns)) := fun Γ σ H0 H Q sh sm q => by
  refine PE.to (pe_callB (call_isVT hz hf) hg hm (by decide +kernel) (pa_cons pe_of (pa_cons (pe_tup hv) pa_nil hst2) hst) (he := hst) (hpl := hpl)) (he Γ σ H0 H _ sh sm (q.step.mono fun x H1 H2 g1 q1 v r => ?_))
  obtain ⟨ex, k, hi, q2⟩ := pIsE_of (A := A) (a := a) (C := C) (ns := ns) q1
  subst ex
  have hv : v = .ref a := r.1
  subst hv
  obtain ⟨h1, h2⟩ := hE.ins C ns k hi
  refine ⟨lim (by rw [List.length_map]; omega), fun p hp => ?_⟩
  exact ⟨C, p, _, _, k, rfl, rfl, h1, rfl, upd_same, cls_all ns, h2, q2 H1 _ (Gr.newO g1.c hp) _ rfl⟩
end
end Lh.P
set_option Elab.async false
set_option linter.all false
set_option maxRecDepth 100000
set_option maxHeartbeats 4000000
/-! [.. for .. for ..]. -/
namespace Lh.P
open PySem PySem.Spec PyProof.Rows L2 _root_.SX
def lcI (vs1 : List Nat) (g1 : PV → Env → Option Env) (fc1 : Env → Rs Bool) (fe : Env → Rs PV) (Γ : Env) : List PV → List PV → Rs (List PV)
  | [], acc => .ok acc
  | x :: xs, acc => match g1 x (wipeE vs1 Γ) with
    | none => .bad
    | some Γ3 => (fc1 Γ3).okB fun b => if b = true then (fe Γ3).okB fun y => if acc.length < 100000 then lcI vs1 g1 fc1 fe Γ xs (acc ++ [y]) else .bad else lcI vs1 g1 fc1 fe Γ xs acc
def lcL2 (vs : List Nat) (g : PV → Env → Option Env) (fc : Env → Rs Bool) (fi1 : Env → Rs (List PV)) (vs1 : List Nat) (g1 : PV → Env → Option Env) (fc1 : Env → Rs Bool) (fe : Env → Rs PV) (Γ : Env) : List PV → List PV → Rs PV
  | [], acc => .ok (.lst acc)
  | x :: xs, acc => match g x (wipeE vs Γ) with
    | none => .bad
    | some Γ2 => (fc Γ2).okB fun b => if b = true then (fi1 Γ2).okB fun ps1 => (lcI vs1 g1 fc1 fe Γ2 ps1 acc).okB fun acc' => lcL2 vs g fc fi1 vs1 g1 fc1 fe Γ xs acc' else lcL2 vs g fc fi1 vs1 g1 fc1 fe Γ xs acc
def bLc2 (vs : List Nat) (fi : Env → Rs (List PV)) (g : PV → Env → Option Env) (fc : Env → Rs Bool) (fi1 : Env → Rs (List PV)) (vs1 : List Nat) (g1 : PV → Env → Option Env) (fc1 : Env → Rs Bool) (fe : Env → Rs PV) : Env → Rs PV := fun Γ => (fi Γ).bind fun ps => lcL2 vs g fc fi1 vs1 g1 fc1 fe Γ ps []
section
variable {X : Cx} {W : WX} {V V2 vs vs1 : List Nat} {tg iter tg1 iter1 el : Expr} {ifs ifs1 : List Expr} {scope : Scope} {pos : Pos}
def BlkI (X : Cx) (V : List Nat) (scope : Scope) (tg1 iter1 : Expr) (wi : TI) (f : Env → Rs (List PV)) : Prop := (∀ (s : Shared) (H : Hp) (C : Addr) (cl : List (Str × Addr)) (fp : List Addr), PI (X.blk s H scope (compEnvC scope cl C X.env) fp) tg1 iter1 wi) ∧ ∀ Γ σ H0 H R, Shr X.K V H0 Γ σ → Same H0 H → Post X.K W0 σ (fun ps H0' H' => ∀ J, Wk X.K H0' J ps → R J H') H0 H (f Γ) → wi σ H R
theorem blkI {f : Env → Rs (List PV)} (h : ∀ (s : Shared) (H : Hp) (C : Addr) (cl : List (Str × Addr)) (fp : List Addr), IX (X.blk s H scope (compEnvC scope cl C X.env) fp) W0 V tg1 iter1 f) :
    BlkI X V scope tg1 iter1 (fun σ H R => ∀ (s : Shared) (Hb : Hp) (C : Addr) (cl : List (Str × Addr)) (fp : List Addr), ∃ w : TI, PI (X.blk s Hb scope (compEnvC scope cl C X.env) fp) tg1 iter1 w ∧ w σ H R) f :=
  ⟨fun s H C cl fp => ⟨fun pins s' σ H' R I q => by
    obtain ⟨w, pi, hw⟩ := q s H C cl fp
    exact pi.run pins s' σ H' R I hw⟩, fun Γ σ H0 H R sh sm q s Hb C cl fp => by
    obtain ⟨w, pi, hw⟩ := h s Hb C cl fp
    exact ⟨w, pi, hw Γ σ H0 H R sh sm q⟩⟩
theorem lc2_ot {wi wi1 : TI} {t t1 : TG} {tt tt1 : TT} {te : TE} {fi fi1 : Env → Rs (List PV)} {g g1 : PV → Env → Option Env} {fc fc1 : Env → Rs Bool} {fe : Env → Rs PV}
    (hi : ∀ Γ σ H0 H R, Shr X.K V H0 Γ σ → Same H0 H → Post X.K W σ (fun ps H0' H' => ∀ J, Wk X.K H0' J ps → R J H') H0 H (fi Γ) → wi σ H R) (gt : GT X.K vs t g) (hc : BlkT X V2 scope ifs tt fc) (hi1 : BlkI X V2 scope tg1 iter1 wi1 fi1) (gt1 : GT X.K vs1 t1 g1) (hc1 : BlkT X V2 scope ifs1 tt1 fc1) (he : BlkE X V2 scope el te fe) (hV : ∀ j ∈ V2, j ∈ V) :
    OT X W V (tLc2 wi t tt wi1 t1 tt1 te vs vs1) (bLc2 vs fi g fc fi1 vs1 g1 fc1 fe) := fun Γ σ H0 H Q sh sm q => by
  refine hi Γ σ H0 H _ sh sm (q.step.mono fun ps H1 H2 gr1 q1 J wk => fun D hD => ?_)
  have hV2 : ∀ {H0}, Shr X.K V H0 Γ σ → Shr X.K V2 H0 Γ σ := fun h => ⟨h.1, fun i hi => h.2 i (hV i hi)⟩
  refine ⟨fun i m Hc => m = ps.length - i ∧ i ≤ ps.length ∧ ∃ Ha acc vs', Gr H1 H2 Ha Hc ∧ Ha D = none ∧ Hc D = some (.lst vs') ∧ Reps X.K Ha acc vs' ∧ Post X.K W σ (gO X.K H Q) H1 H2 (lcL2 vs g fc fi1 vs1 g1 fc1 fe Γ (ps.drop i) acc), ?_, ?_⟩
  · exact ⟨ps.length, by simp, Nat.zero_le _, H1, [], [], Gr.newO gr1.c hD, none_back gr1.c hD, upd_same, trivial, q1⟩
  rintro i m Hc ⟨rfl, hi2, Ha, acc, vs', G, nD, hDl, ra, pq⟩
  by_cases hlt : i < ps.length
  · obtain ⟨x, hx⟩ : ∃ x, ps[i]? = some x := ⟨ps[i], List.getElem?_eq_getElem hlt⟩
    have hd : ps.drop i = x :: ps.drop (i + 1) := by
      rw [List.drop_eq_getElem_cons hlt]
      congr 1
      rw [List.getElem?_eq_getElem hlt] at hx
      exact Option.some.inj hx
    rw [hd] at pq
    refine .inr ⟨wk.go i Hc hlt (G.a.trans G.c), fun H' => (ps.length - (i + 1) = ps.length - (i + 1) ∧ i + 1 ≤ ps.length ∧ ∃ Ha acc vs', Gr H1 H2 Ha H' ∧ Ha D = none ∧ H' D = some (.lst vs') ∧ Reps X.K Ha acc vs' ∧ Post X.K W σ (gO X.K H Q) H1 H2 (lcL2 vs g fc fi1 vs1 g1 fc1 fe Γ (ps.drop (i + 1)) acc)), fun H' h => ⟨ps.length - (i + 1), by omega, h⟩, fun v H4 y => ?_⟩
    obtain ⟨H04, g4, r4⟩ := wk.yld i Hc v H4 hlt (G.a.trans G.c) y Ha G.a G.c
    have nDk : ∀ {Hx Hy : Hp}, Gr Ha Hc Hx Hy → Hx D = none := fun {Hx Hy} gg => by
      cases e : Hx D with
      | none => rfl
      | some o =>
        rcases gg.d D (by rw [e]; simp) with z | z
        · exact absurd nD z
        · rw [hDl] at z; cases z
    unfold lcL2 at pq
    cases hg : g x (wipeE vs Γ) with
    | none => rw [hg] at pq; exact False.elim pq
    | some Γ2 =>
      rw [hg] at pq
      dsimp only at pq
      refine gt x v (wipeE vs Γ) (L2.wipe σ vs) H04 H4 _ Γ2 (r4 x hx) g4.c hg fun u hu e2 => ⟨?_, ?_⟩
      · rw [wipe_puts fun q hq => (hu q hq).1, wipe_wipe]
      have sh2 : Shr X.K V2 H04 Γ2 (putV u (L2.wipe σ vs)) := by
        rw [e2]
        exact ((((hV2 sh).mono (gr1.a.trans (G.a.trans g4.a))).wipe vs).puts fun q hq => (hu q hq).2)
      refine hc.2 Γ2 _ H04 H4 _ sh2 g4.c ?_
      cases hfc : fc Γ2 with
      | ex C fs => rw [hfc] at pq; exact False.elim pq
      | bad => rw [hfc] at pq; exact False.elim pq
      | ok k =>
        rw [hfc] at pq
        have pq : Post X.K W σ (gO X.K H Q) H1 H2 (if k = true then (fi1 Γ2).okB fun ps1 => (lcI vs1 g1 fc1 fe Γ2 ps1 acc).okB fun acc' => lcL2 vs g fc fi1 vs1 g1 fc1 fe Γ (ps.drop (i + 1)) acc' else lcL2 vs g fc fi1 vs1 g1 fc1 fe Γ (ps.drop (i + 1)) acc) := pq
        intro H05 H5 g5
        have g45 := g4.trans g5
        cases k with
        | false =>
          rw [if_neg (by decide)] at pq
          simp only [gT, Bool.false_eq_true, if_false]
          exact ⟨trivial, hlt, H05, acc, vs', G.trans g45, nDk g45, g45.b _ _ hDl, Reps.mono g45.a _ _ ra, pq⟩
        | true =>
          rw [if_pos rfl] at pq
          simp only [gT, if_true]
          refine hi1.2 Γ2 _ H05 H5 _ (sh2.mono g5.a) g5.c ?_
          cases hfi : fi1 Γ2 with
          | ex C fs => rw [hfi] at pq; exact False.elim pq
          | bad => rw [hfi] at pq; exact False.elim pq
          | ok ps1 =>
            rw [hfi] at pq
            have pq : Post X.K W σ (gO X.K H Q) H1 H2 ((lcI vs1 g1 fc1 fe Γ2 ps1 acc).okB fun acc' => lcL2 vs g fc fi1 vs1 g1 fc1 fe Γ (ps.drop (i + 1)) acc') := pq
            intro H06 H6 g6 J1 wk1
            have g46 := g45.trans g6
            have sh6 : Shr X.K V2 H06 Γ2 (putV u (L2.wipe σ vs)) := sh2.mono (g5.a.trans g6.a)
            refine ⟨fun j k Hc1 => k = ps1.length - j ∧ j ≤ ps1.length ∧ ∃ Hb acc1 vs2, Gr H1 H2 Hb Hc1 ∧ Same H06 Hb ∧ Hb D = none ∧ Hc1 D = some (.lst vs2) ∧ Reps X.K Hb acc1 vs2 ∧ Post X.K W σ (gO X.K H Q) H1 H2 ((lcI vs1 g1 fc1 fe Γ2 (ps1.drop j) acc1).okB fun acc' => lcL2 vs g fc fi1 vs1 g1 fc1 fe Γ (ps.drop (i + 1)) acc'), ?_, ?_⟩
            · exact ⟨ps1.length, by simp, Nat.zero_le _, H06, acc, vs', G.trans g46, fun _ _ h => h, nDk g46, g46.b _ _ hDl, Reps.mono g46.a _ _ ra, pq⟩
            rintro j k Hc1 ⟨rfl, hj2, Hb, acc1, vs2, G1, s1, nD1, hDl1, ra1, pq1⟩
            by_cases hlt1 : j < ps1.length
            · obtain ⟨x1, hx1⟩ : ∃ x, ps1[j]? = some x := ⟨ps1[j], List.getElem?_eq_getElem hlt1⟩
              have hd1 : ps1.drop j = x1 :: ps1.drop (j + 1) := by
                rw [List.drop_eq_getElem_cons hlt1]
                congr 1
                rw [List.getElem?_eq_getElem hlt1] at hx1
                exact Option.some.inj hx1
              rw [hd1] at pq1
              refine .inr ⟨wk1.go j Hc1 hlt1 (s1.trans G1.c), fun H' => (ps1.length - (j + 1) = ps1.length - (j + 1) ∧ j + 1 ≤ ps1.length ∧ ∃ Hb acc1 vs2, Gr H1 H2 Hb H' ∧ Same H06 Hb ∧ Hb D = none ∧ H' D = some (.lst vs2) ∧ Reps X.K Hb acc1 vs2 ∧ Post X.K W σ (gO X.K H Q) H1 H2 ((lcI vs1 g1 fc1 fe Γ2 (ps1.drop (j + 1)) acc1).okB fun acc' => lcL2 vs g fc fi1 vs1 g1 fc1 fe Γ (ps.drop (i + 1)) acc')), fun H' h => ⟨ps1.length - (j + 1), by omega, h⟩, fun v1 H7 y1 => ?_⟩
              obtain ⟨H07, g7, r7⟩ := wk1.yld j Hc1 v1 H7 hlt1 (s1.trans G1.c) y1 Hb s1 G1.c
              have nDk1 : ∀ {Hx Hy : Hp}, Gr Hb Hc1 Hx Hy → Hx D = none := fun {Hx Hy} gg => by
                cases e : Hx D with
                | none => rfl
                | some o =>
                  rcases gg.d D (by rw [e]; simp) with z | z
                  · exact absurd nD1 z
                  · rw [hDl1] at z; cases z
              unfold lcI at pq1
              cases hg1 : g1 x1 (wipeE vs1 Γ2) with
              | none => rw [hg1] at pq1; exact False.elim pq1
              | some Γ3 =>
                rw [hg1] at pq1
                dsimp only at pq1
                refine gt1 x1 v1 (wipeE vs1 Γ2) (L2.wipe (putV u (L2.wipe σ vs)) vs1) H07 H7 _ Γ3 (r7 x1 hx1) g7.c hg1 fun u1 hu1 e3 => ⟨?_, ?_⟩
                · rw [wipe_puts fun q hq => (hu1 q hq).1, wipe_wipe]
                have sh3 : Shr X.K V2 H07 Γ3 (putV u1 (L2.wipe (putV u (L2.wipe σ vs)) vs1)) := by
                  rw [e3]
                  exact (((sh6.mono (s1.trans g7.a)).wipe vs1).puts fun q hq => (hu1 q hq).2)
                refine hc1.2 Γ3 _ H07 H7 _ sh3 g7.c ?_
                cases hfc1 : fc1 Γ3 with
                | ex C fs => rw [hfc1] at pq1; exact False.elim pq1
                | bad => rw [hfc1] at pq1; exact False.elim pq1
                | ok k =>
                  rw [hfc1] at pq1
                  have pq1 : Post X.K W σ (gO X.K H Q) H1 H2 ((if k = true then (fe Γ3).okB fun y => if acc1.length < 100000 then lcI vs1 g1 fc1 fe Γ2 (ps1.drop (j + 1)) (acc1 ++ [y]) else .bad else lcI vs1 g1 fc1 fe Γ2 (ps1.drop (j + 1)) acc1).okB fun acc' => lcL2 vs g fc fi1 vs1 g1 fc1 fe Γ (ps.drop (i + 1)) acc') := pq1
                  intro H08 H8 g8
                  have g78 := g7.trans g8
                  cases k with
                  | false =>
                    rw [if_neg (by decide)] at pq1
                    simp only [gT, Bool.false_eq_true, if_false]
                    exact ⟨trivial, hlt1, H08, acc1, vs2, G1.trans g78, s1.trans g78.a, nDk1 g78, g78.b _ _ hDl1, Reps.mono g78.a _ _ ra1, pq1⟩
                  | true =>
                    rw [if_pos rfl] at pq1
                    simp only [gT, if_true]
                    refine he.2 Γ3 _ H08 H8 _ (sh3.mono g8.a) g8.c ?_
                    cases hfe : fe Γ3 with
                    | ex C fs => rw [hfe] at pq1; exact False.elim pq1
                    | bad => rw [hfe] at pq1; exact False.elim pq1
                    | ok y =>
                      rw [hfe] at pq1
                      have pq1 : Post X.K W σ (gO X.K H Q) H1 H2 ((if acc1.length < 100000 then lcI vs1 g1 fc1 fe Γ2 (ps1.drop (j + 1)) (acc1 ++ [y]) else .bad).okB fun acc' => lcL2 vs g fc fi1 vs1 g1 fc1 fe Γ (ps.drop (i + 1)) acc') := pq1
                      by_cases hl : acc1.length < 100000
                      · rw [if_pos hl] at pq1
                        intro H09 H9 g9 w rw_
                        have g79 := g78.trans g9
                        have n9 := nDk1 g79
                        refine ⟨vs2, g79.b _ _ hDl1, by rw [ra1.len]; exact limL hl, trivial, hlt1, H09, acc1 ++ [y], vs2 ++ [w], ⟨(G1.trans g79).a, same_upd (G1.trans g79).b hD, same_upd g9.c n9, (G1.trans g79).d⟩, s1.trans g79.a, n9, upd_same, (Reps.mono g79.a _ _ ra1).app ⟨rw_, trivial⟩, pq1⟩
                      · rw [if_neg hl] at pq1
                        exact False.elim pq1
            · have e : j = ps1.length := by omega
              subst e
              rw [List.drop_length] at pq1
              exact .inl ⟨wk1.stop Hc1 (s1.trans G1.c), trivial, hlt, Hb, acc1, vs2, G1, nD1, hDl1, ra1, pq1⟩
  · have e : i = ps.length := by omega
    subst e
    rw [List.drop_length] at pq
    exact .inl ⟨wk.stop Hc (G.a.trans G.c), (pq Ha Hc G).2 D (none_back gr1.b hD) nD ⟨vs', hDl, ra⟩⟩
/-- as a value -/
theorem o_lc2 {own : List (Str × Nat)} {t t1 : TG} {tt tt1 : TT} {te : TE} {wi1 : TI} {fi fi1 : Env → Rs (List PV)} {g g1 : PV → Env → Option Env} {fc fc1 : Env → Rs Bool} {fe : Env → Rs PV} (hc : X.calm = true) (hN : X.N.Nodup)
    (hi : IX X W V tg iter fi) (ok : BlkOk X.N X.env.scope scope own) (hv : ∀ i ∈ vs1, i ∈ own.map (·.2)) (hg : ∀ (s : Shared) (H : Hp) (C : Addr) (cl : List (Str × Addr)) (fp : List Addr), PG (X.blk s H scope (compEnvC scope cl C X.env) fp) tg t) (gt : GT X.K (own.map (·.2)) t g)
    (ht : BlkT X V2 scope ifs tt fc) (hi1 : BlkI X V2 scope tg1 iter1 wi1 fi1) (hg1 : ∀ (s : Shared) (H : Hp) (C : Addr) (cl : List (Str × Addr)) (fp : List Addr), PG (X.blk s H scope (compEnvC scope cl C X.env) fp) tg1 t1) (gt1 : GT X.K vs1 t1 g1) (ht1 : BlkT X V2 scope ifs1 tt1 fc1) (he : BlkE X V2 scope el te fe) (hV : ∀ j ∈ V2, j ∈ V)
    (hs : ∀ x, foldedSetIterable iter X.env x = pure x := by intro _; rfl) (hs1 : ∀ env x, foldedSetIterable iter1 env x = pure x := by intro _ _; rfl) : OX X W V (.ListComp el [⟨tg, iter, ifs, 0⟩, ⟨tg1, iter1, ifs1, 0⟩] scope pos) (bLc2 (own.map (·.2)) fi g fc fi1 vs1 g1 fc1 fe) := fun Γ σ H0 H Q sh sm q => by
  obtain ⟨wi, pi, hwi⟩ := hi
  exact PE.to (pe_lc2 hc hN pi ok hv hg ht.1 hi1.1 hg1 ht1.1 he.1 hs hs1) (lc2_ot hwi gt ht hi1 gt1 ht1 he hV Γ σ H0 H Q sh sm q)
end
end Lh.P
set_option Elab.async false
set_option linter.all false
set_option maxRecDepth 100000
set_option maxHeartbeats 4000000
/-! An own error whose __init__ says super().__init__(..), then keeps fields. -/
namespace Lh.P
open PySem PySem.Spec PyProof.Rows L2 _root_.SX
/-- what the head tells of such a class: C, its __init__ at f -/
structure ExIni (P : Program) (K : PySem.W.Frag) (mg : Str → Option Value) (x qual : Str) (C f : Addr) (st : Stmt) : Prop where
  cls : OexC K C
  g : mg x = some (.ref C)
  ini : PySem.W.findIn K (.ref C) "__init__" = some (some (.ref f))
  ty : PySem.W.typeIn K (.ref f) = some (.type "function")
  fn : ∃ oc od kV doc pm an cda ct cc osl ccl cdd vs file tf ccs cl cld csl, K.lookup f = some ⟨oc, od, .func (PySem.W.ksFn "__init__" qual (defArgs st) (defBody st) (defScope st) .none kV doc pm an (.ref cda) ct cc), osl⟩ ∧ PySem.W.codeIn K (.ref cda) qual = true ∧
    K.lookup cda = some ⟨ccl, cdd, .fields vs, ccs⟩ ∧ vs[2]? = some (.str file tf) ∧ ((P.main.file : Str) == file) = true ∧ K.lookup cc = some ⟨cl, cld, .cell (some (.ref C)), csl⟩
  htop : (P.main.scope.names.lookup ("super" : Str)).isSome = false
  mgs : mg "super" = none
  sub : PySem.W.mroIn K C (.ref C) = some true
  sup : PySem.W.ks_superIn K C C "__init__" = some (some (.builtin "ValueError.__init__"))
  isVE : PySem.W.subIn K (.ref C) (.type "ValueError") = some true
  st : PySem.W.nsIn K cStatics "thirdparty.any" = some none
/-- the context of such an __init__ -/
def cxS (CX : CXT) (P : Program) (w : World) (K : PySem.W.Frag) (mg : Str → Option Value) (base : Heap) (N : List Str) (qual : Str) (scope : Scope) (f : Addr) (cd : Value) (cc : Addr) (A : Around) (outer : List PySem.Env) (s : Shared) (H : Hp) (E : XK) : Cx where
  prog := P
  w := w
  K := K
  mg := mg
  base := base
  A := A.deeper (PySem.W.ksEnv qual scope s.heap.objs.size f cd cc)
  N := N
  s_0 := s
  H_0 := H
  env := PySem.W.ksEnv qual scope s.heap.objs.size f cd cc
  outer := outer
  stack := PySem.W.ksEnv qual scope s.heap.objs.size f cd cc :: outer
  ex := []
  calm := true
  fn := fun _ => false
  pn := []
  xe := fun e s' => wpAny (model P w) (A.deeper (PySem.W.ksEnv qual scope s.heap.objs.size f cd cc)) (leaving (PySem.W.ksEnv qual scope s.heap.objs.size f cd cc) e) (fun _ s'' => CX outer H s E e s'') (fun e' s'' => CX outer H s E e' s'') s'
/-- the scope of such an __init__ -/
structure InScope (N ps : List Str) (sf : Str) (sc : Scope) : Prop where
  kind : sc.kind = .function
  co : sc.isCoroutine = false
  gen : sc.isGenerator = false
  nd : ps.Nodup
  nN : N = ps
  head : ps.head? = some sf
  par : ∀ x ∈ ps, sc.names.lookup x = some .local
  free : ∀ y ∈ sc.names, y.2 = .free → y.1 = "__class__"
  nocell : ∀ y ∈ sc.names, y.2 ≠ .cell
  sup : sc.names.lookup ("super" : Str) = some .globalImplicit
  cls : sc.names.lookup ("__class__" : Str) = some .free
theorem lookup_one {β : Type} {x : Str} {u : β} : ∀ {l : List (Str × β)}, (l.map (·.1)).Nodup → (x, u) ∈ l → l.lookup x = some u
  | [], _, h => by cases h
  | (y, v) :: l, hn, hm => by
    rw [List.map_cons, List.nodup_cons] at hn
    rcases List.mem_cons.mp hm with e | hm
    · cases e
      simp [List.lookup]
    · have ne : x ≠ y := fun z => hn.1 (by rw [← z]; exact List.mem_map.mpr ⟨_, hm, rfl⟩)
      have e : (x == y) = false := by simpa using ne
      show (match x == y with
        | true => some v
        | false => l.lookup x) = some u
      rw [e]
      exact lookup_one hn.2 hm
theorem zip_keys : ∀ {ps : List Str} {us : List Value}, ((ps.zip us).map (·.1)).Sublist ps
  | [], _ => .slnil
  | _ :: _, [] => List.nil_sublist _
  | _ :: _, _ :: _ => zip_keys.cons₂ _
theorem zip_mem {ps : List Str} {us : List Value} {i : Nat} {x : Str} {u : Value} (h1 : ps[i]? = some x) (h2 : us[i]? = some u) : (x, u) ∈ ps.zip us :=
  List.mem_of_getElem? (List.getElem?_zip_eq_some.mpr ⟨h1, h2⟩)
theorem lookup_zip_rev {ps : List Str} {us : List Value} {i : Nat} {x : Str} {u : Value} (nd : ps.Nodup) (h1 : ps[i]? = some x) (h2 : us[i]? = some u) : (ps.zip us).reverse.lookup x = some u := by
  refine lookup_one ?_ (List.mem_reverse.mpr (zip_mem h1 h2))
  rw [List.map_reverse]
  exact List.pairwise_reverse.mpr ((zip_keys.nodup nd).imp fun h => h.symm)
section
variable {CX : CXT} {P : Program} {w : World} {K : PySem.W.Frag} {mg : Str → Option Value} {base : Heap} {N ps : List Str} {sf qual : Str} {scope : Scope} {f cc : Addr} {cd : Value} {A : Around} {outer : List PySem.Env} {s : Shared} {H : Hp} {E : XK} {us : List Value} {vs : List L2.V}
theorem inv_startS {h1 : Heap} {tk : Nat} {cl : Value} {cld : Option Addr} {csl : Array (Option Value)} {C : Addr} (S : InScope N ps sf scope) (hd : A.handled = none) (e0 : Env0 P w K mg base A outer s H) (hl : vs.length = ps.length) (r : Vals vs us) (hcc : K.lookup cc = some ⟨cl, cld, .cell (some (.ref C)), csl⟩)
    (hn : h1.Ns s.heap.objs.size (fun y => (ps.zip us).reverse.lookup y)) (hk : ∀ b o, s.heap.get? b = some o → h1.get? b = some o) :
    Inv (cxS CX P w K mg base N qual scope f cd cc A outer s H E) [] (L2.start N vs) H { s with heap := h1, toks := tk } := by
  have noA : ∀ b : Addr, b ∉ (cxS CX P w K mg base N qual scope f cd cc A outer s H E).ex := fun b z => absurd (show b ∈ ([] : List Addr) from z) (by simp)
  have cel : ∀ {x : Str} {c : Addr}, (cxS CX P w K mg base N qual scope f cd cc A outer s H E).env.cells.lookup x = some c → x = "__class__" ∧ c = cc := fun {x c} h => by
    have h : (match x == ("__class__" : Str) with
      | true => some cc
      | false => ([] : List (Str × Addr)).lookup x) = some c := h
    cases e : x == ("__class__" : Str) with
    | true => rw [e] at h; cases h; exact ⟨by simpa using e, rfl⟩
    | false => rw [e] at h; cases h
  have hcb : base.get? cc = some ⟨cl, cld, .cell (some (.ref C)), csl⟩ := e0.mod.kin _ _ hcc
  refine ⟨⟨e0.mod, S.kind, rfl, rfl, Nat.le_refl _, fun y z c h1 h2 => (cel h1).1.trans (cel h2).1.symm, fun y hy => ?_, fun y c h _ => absurd (show false = true from h) (by decide), fun _ => hd, Around.frames_deeper e0.frames, .inr ⟨rfl, rfl⟩, fun b z => absurd z (noA b), e0.bs, e0.bsz, fun b _ _ => noA b, fun b z => absurd z (noA b), e0.funs, e0.frf⟩,
    rfl, e0.bare, Un.kept hk, ⟨_, hn, fun i y v h1 h2 h3 => ?_⟩, fun y c h => ?_, e0.hok.fresh (Nat.le_refl _), fun y c h => ?_, fun p hp => absurd (show p ∈ ([] : List (Addr × Obj)) from hp) (by simp), e0.hok.kept hk, ?_⟩
  · have hy : scope.names.lookup y = some .cell ∨ scope.names.lookup y = some .free := hy
    rcases hy with hy | hy
    · exact absurd rfl (S.nocell _ (PySem.mem_of_lookup hy))
    · have : y = "__class__" := S.free _ (PySem.mem_of_lookup hy) rfl
      subst this
      exact ⟨cc, rfl⟩
  · have h1 : N[i]? = some y := h1
    rw [S.nN] at h1
    have hi : i < vs.length := by
      rw [hl]
      exact (List.getElem?_eq_some_iff.mp h1).1
    have ha : vs[i]? = some v := by
      unfold L2.start at h2
      rw [List.getElem?_append_left (by simpa using hi), List.getElem?_map] at h2
      obtain ⟨v', e1, e2⟩ := Option.map_eq_some_iff.mp h2
      cases e2
      exact e1
    obtain ⟨u, hu, ru⟩ := Vals.get r ha
    exact ⟨u, ru, .inl ⟨S.par y (List.mem_of_getElem? h1), lookup_zip_rev S.nd h1 hu⟩⟩
  · obtain ⟨_, rfl⟩ := cel h
    exact ⟨_, _, hk _ _ (e0.bs _ _ hcb).1, rfl⟩
  · obtain ⟨_, rfl⟩ := cel h
    exact (e0.bs _ _ hcb).2
  · show (L2.start N vs).length = N.length
    unfold L2.start
    rw [S.nN]
    simp
    omega
end
end Lh.P
set_option Elab.async false
set_option linter.all false
set_option maxRecDepth 100000
set_option maxHeartbeats 4000000
/-! super().__init__(..): the walk. -/
namespace Lh.P
open PySem PySem.Spec PyProof.Rows PySem.Calls L2 _root_.SX
section
variable {CX : CXT} {P : Program} {w : World} {K : PySem.W.Frag} {mg : Str → Option Value} {base : Heap} {N ps : List Str} {sf x qual : Str} {C f : Addr} {st : Stmt} {sp : Sp} {k : Nat} {e : Expr} {rest : List Stmt} {p0 p1 p2 p3 p4 : Pos} {ar : Arg}
theorem super_ok (D : ExIni P K mg x qual C f st) (S : InScope N ps sf (defScope st))
    (hbd : defBody st = .Expr (.Call (.Attribute (.Call (.Name "super" p0) [] [] p1) "__init__" p2) [e] [] p3) p4 :: rest)
    (hp : ((defArgs st).posonlyargs ++ (defArgs st).args).head? = some ar) (har : ar.arg = sf)
    (len : ∀ vs H Q E, sp vs H Q E → vs.length = ps.length)
    (hsw : ∀ env : PySem.Env, swapsWith (.Call (.Attribute (.Call (.Name "super" p0) [] [] p1) "__init__" p2) [e] [] p3) none p4.line env = pure false)
    (hev : ∀ env : PySem.Env, ∃ pl : Sem Bool, eval (.Call (.Attribute (.Call (.Name "super" p0) [] [] p1) "__init__" p2) [e] [] p3) env = (do
      let ov ← attributeBase (.Call (.Name "super" p0) [] [] p1) "__init__" env (eval (.Call (.Name "super" p0) [] [] p1) env)
      standAt p2.atName
      let (f, first) ← holding [ov] (getMethod ov "__init__" pl)
      callWith p3 f first (backTo p3 (starEach [e] env)) []))
    (he : ∀ env : PySem.Env, starEach [e] env = (false, eval e env) :: starEach [] env)
    (hbi : ∀ (kV doc pm : Value) (an : Option Addr) (cdv ct : Value) (cc : Addr) (us : List Value), us.length = ps.length → bindArgs (PySem.W.ksFn "__init__" qual (defArgs st) (defBody st) (defScope st) .none kV doc pm an cdv ct cc) ⟨us, []⟩ = pure (ps.zip us))
    (hbody : ∀ (cd : Value) (cc : Addr) (A : Around) (outer : List PySem.Env) (s : Shared) (H : Hp) (vs : List L2.V) (Q : VK) (E : XK), Room k (A.deeper (PySem.W.ksEnv qual (defScope st) s.heap.objs.size f cd cc)) → sp vs H Q E →
      ∃ a ws, vs = .ref a :: ws ∧ H a = some (exo a C none) ∧ tOf (cxS CX P w K mg base N qual (defScope st) f cd cc A outer s H E) e (L2.start N vs) H fun _ H1 => H1 a = some (exo a C none) ∧ tssOf (cxS CX P w K mg base N qual (defScope st) f cd cc A outer s H E) rest { nx := fun _ H' => Q .non H', rt := Q } (L2.start N vs) H1) :
    ∃ fd, FnOk P w K mg base CX (k + 1) f fd ps sp ∧ Binds K fd ps [] := by
  obtain ⟨oc, od, kV, doc, pm, an, cda, ct, cc, osl, ccl, cdd, vsC, file, tf, ccs, cl, cld, csl, lkf, hcode, lkc, hvs, hfile, lkcc⟩ := D.fn
  refine ⟨PySem.W.ksFn "__init__" qual (defArgs st) (defBody st) (defScope st) .none kV doc pm an (.ref cda) ct cc, ⟨len, fun A outer s H args us vs Q E hr e0 hb r hsp => ?_⟩, Binds.all fun us hl => hbi _ _ _ _ _ _ _ us hl⟩
  have hl := len _ _ _ _ hsp
  have KX : K.In s.heap := e0.mod.kin.keeps fun b o e => (e0.bs b o e).1
  have lim : s.heap.NoLimit := e0.mod.nolimit.keeps fun b o e => (e0.bs b o e).1
  refine ks_codeAny_call_defAt (fd := PySem.W.ksFn "__init__" qual (defArgs st) (defBody st) (defScope st) .none kV doc pm an (.ref cda) ct cc) (body := defBody st) (binds := ps.zip us) hr.depth (KX _ _ lkf) rfl lim (PySem.W.codeRec_of KX hcode) rfl hb S.nocell (fun y hy => S.par _ (List.of_mem_zip hy).1) (fun h₀ hns hk => ?_) S.co S.gen S.kind
  show _root_.PySem.wpAt (model P w) (A.deeper (PySem.W.ksEnv qual (defScope st) s.heap.objs.size f (.ref cda) cc)) (.func (defBody st) (PySem.W.ksEnv qual (defScope st) s.heap.objs.size f (.ref cda) cc)) (execs (defBody st) (PySem.W.ksEnv qual (defScope st) s.heap.objs.size f (.ref cda) cc)) _ _ _
  obtain ⟨a, ws, ev, hea, hte⟩ := hbody (.ref cda) cc A outer s H vs Q E (hr.deeper _) hsp
  have I := inv_startS (CX := CX) (E := E) (N := N) (qual := qual) (scope := defScope st) (f := f) (cd := .ref cda) (tk := s.toks + (ps.zip us).length) S hr.hd e0 hl r lkcc hns hk
  have X1 : K.In h₀ := KX.keeps hk
  rw [hbd]
  have KA := hea
  obtain ⟨t1, hoe⟩ := exo_at I.hok hea
  have hoe : h₀.get? a = some ({ cls := .ref C, dict := none, data := .fields #[.ref t1, .none, .none, .none, .bool false, .none] } : Obj) := hoe
  have IA : PySem.W.InstAt h₀ a { cls := .ref C, dict := none, data := .fields #[.ref t1, .none, .none, .none, .bool false, .none] } C none := ⟨hoe, rfl, rfl, trivial⟩
  obtain ⟨cd, hcd⟩ : ∃ cd, PySem.W.clsIn K C = some cd := by
    have h := D.sup
    unfold PySem.W.ks_superIn at h
    cases hc : PySem.W.clsIn K C with
    | none => rw [hc] at h; cases h
    | some cd => exact ⟨cd, rfl⟩
  have hsup := D.sup
  unfold PySem.W.ks_superIn at hsup
  rw [hcd] at hsup
  obtain ⟨oD, hD1, hD2⟩ : ∃ oD, h₀.get? C = some oD ∧ oD.data = .cls cd := by
    have h := hcd
    unfold PySem.W.clsIn at h
    split at h
    · rename_i c d cd' sl ho
      cases h
      exact ⟨_, X1 _ _ ho, rfl⟩
    · cases h
  have hself : (ps.zip us).reverse.lookup ar.arg = some (.ref a) := by
    obtain ⟨u, hu, ru⟩ := Vals.get (i := 0) r (by rw [ev]; rfl)
    have ru : u = .ref a := ru
    subst ru
    rw [har]
    refine lookup_zip_rev (i := 0) S.nd ?_ hu
    have := S.head
    rwa [List.head?_eq_getElem?] at this
  have hsl : (defScope st).names.lookup ar.arg = some .local := by
    rw [har]
    exact S.par _ (List.mem_of_mem_head? (by rw [S.head]; rfl))
  obtain ⟨mb, hb1, hb2⟩ := e0.mod.blt
  have bk : ∀ b o, base.get? b = some o → h₀.get? b = some o := fun b o z => hk b o (e0.bs b o z).1
  obtain ⟨pl, hpl⟩ := hev (PySem.W.ksEnv qual (defScope st) s.heap.objs.size f (.ref cda) cc)
  refine ks_wpAt_execs_cons (ks_wpAt_Expr_any (ks_wpAt_MethodCall (pl := pl) ?_ hpl) I.quiet (hsw _))
  refine ks_wpAt_super_base (env := PySem.W.ksEnv qual (defScope st) s.heap.objs.size f (.ref cda) cc) S.sup S.cls rfl rfl (X1 _ _ lkf) rfl hp rfl (X1 _ _ lkc) rfl hvs hfile D.htop ?_
  refine PySem.W.ks_loadName_global S.kind S.sup (loadGlobal_builtin (env := PySem.W.ksEnv qual (defScope st) s.heap.objs.size f (.ref cda) cc) (e0.mod.glob.keeps bk) D.mgs (hb1.keeps bk) ((hb2 _ (by decide)).trans (show bootBuiltins "super" = some (.type "super") from by decide +kernel)) ⟨rfl, ?_⟩)
  refine wpAny_loadName_free S.kind S.cls rfl ⟨_, X1 _ _ lkcc, rfl⟩ ?_
  refine wpAny_loadName_local S.kind hsl hns hself ?_
  refine ks_wpAny_isType_cls hD1 hD2 ⟨rfl, ?_⟩
  refine ks_wpAny_call_super hD1 hD2 hoe rfl (fun c z => nomatch z) (PySem.W.looks_mroIn X1 D.sub) (fun h2 e2 k2 => ?_)
  have X2 : K.In h2 := X1.keeps k2
  have IA2 : PySem.W.InstAt h2 a { cls := .ref C, dict := none, data := .fields #[.ref t1, .none, .none, .none, .bool false, .none] } C none := ⟨k2 _ _ hoe, rfl, rfl, trivial⟩
  refine PySem.W.kxs_getMethod PySem.W.kxs_ValueError e2 (PySem.W.looks_opaque X2 D.st) (l₀ := cd.mro) (fun A Q E s k q => wpAny_bind ((PySem.W.looks_clsIn X2 hcd) A _ E s k (wpAny_pure q))) rfl X2 hsup (IA2.type.andThen (PySem.W.looks_subIn X2 D.isVE)) (PySem.W.ks_ne X2 IA2 hcd) (by decide) ?_
  let X : Cx := cxS CX P w K mg base N qual (defScope st) f (.ref cda) cc A outer s H E
  have lt2 : h₀.objs.size ≤ h2.objs.size := Nat.le_of_lt (Heap.lt_size e2)
  have kp : ∀ b o, h₀.get? b = some o → (h2.push (PySem.W.kxs_mw "ValueError.__init__" a)).get? b = some o := fun b o z => Heap.get?_push_of_some _ (k2 b o z)
  have J0 : Inv X [] (L2.start N vs) H { s with heap := h2.push (PySem.W.kxs_mw "ValueError.__init__" a), toks := s.toks + (ps.zip us).length + 1 } := I.kept (t' := s.toks + (ps.zip us).length + 1) kp
  have J : Inv X [(h2.objs.size, PySem.W.kxs_mw "ValueError.__init__" a)] (L2.start N vs) H { s with heap := h2.push (PySem.W.kxs_mw "ValueError.__init__" a), toks := s.toks + (ps.zip us).length + 1 } := J0.pins_of fun p hp => by
    obtain rfl := List.mem_singleton.mp hp
    refine ⟨Heap.get?_push_at rfl rfl, I.hok.fresh lt2, Nat.ne_of_gt (Nat.lt_of_lt_of_le I.lt lt2), I.nofs lt2, fun v z => nomatch z⟩
  have pa : PA X [e] (tCons (tOf X e) tNil) := pa_cons pe_of pa_nil (he _)
  have key := pa.run p3 [(h2.objs.size, PySem.W.kxs_mw "ValueError.__init__" a)] _ (L2.start N vs) H (fun ys H1 => ys.length = 1 ∧ H1 a = some (exo a C none) ∧ tssOf X rest { nx := fun _ H' => Q .non H', rt := Q } (L2.start N vs) H1) J (show tOf X e (L2.start N vs) H fun y H1 => [y].length = 1 ∧ H1 a = some (exo a C none) ∧ tssOf X rest { nx := fun _ H' => Q .non H', rt := Q } (L2.start N vs) H1 from fun pins s I => wpAny_mono (hte pins s I) (fun u s' ⟨v, H', I', r', q'⟩ => ⟨v, H', I', r', rfl, q'⟩) fun _ _ z => z)
  have hz0 : (backTo p3 (starEach [e] (PySem.W.ksEnv qual (defScope st) s.heap.objs.size f (.ref cda) cc))).any (·.1) = false := by
    rw [he]
    rfl
  show wpAny (model P w) _ (callWith p3 (.ref h2.objs.size) [] (backTo p3 (starEach [e] (PySem.W.ksEnv qual (defScope st) s.heap.objs.size f (.ref cda) cc))) []) _ _ _
  refine PySem.W.kxs_callWith (i := "ValueError.__init__") (x := a) hz0 ?_
  rw [he] at key ⊢
  refine evalArgs_plain (wpAny_mono key (fun ws2 s3 hap => ?_) fun _ _ z => z)
  obtain ⟨ys, H1, I3, ry, hy1, hea3, hq⟩ := hap
  have hu : s3.heap.get? h2.objs.size = some (PySem.W.kxs_mw "ValueError.__init__" a) := (I3.pin _ (List.mem_append_right _ (List.mem_singleton.mpr rfl))).1
  refine ⟨hu, ?_⟩
  obtain ⟨t3, hoe3⟩ := exo_at I3.hok hea3
  have hlen : ws2.length ≤ sizeLine := by
    rw [← Paired.length ry, hy1]
    decide
  obtain ⟨nm, q, N', bs, bm, sn, sub, ab, col, dd, k0, k1, k2', k3, k5, hC, hbm⟩ := D.cls.cls
  have hC3 := I3.kIn _ _ hC
  obtain ⟨hp3, g3, d3, tk3, os3⟩ := s3
  show wpAny (model P w) _ (call (.ref h2.objs.size) ws2) _ _ _
  refine wpAny_call (codeAny_of_tree ?_)
  show wpAny _ (Around.in1 _) (callAny (.ref h2.objs.size) ⟨ws2, []⟩) _ _ _
  simp only [callAny]
  refine wpAny_bind (wpAny_load hu ?_)
  simp only [PySem.W.kxs_mw, show (Value.type "method-wrapper" == Value.type "method" || Value.type "method-wrapper" == Value.type "builtin_function_or_method" || Value.type "method-wrapper" == Value.type "method-wrapper") = true by decide, if_true]
  refine PySem.W.KFB.if_so (by decide) ?_
  refine wpAny_bind (PySem.W.check_bound_init PySem.F.excBase_ValueError.toExcCallFacts hC3 hoe3 rfl ?_)
  refine wpAny_bind (wpAny_pure (wpAny_pure ?_))
  refine ⟨plainId_quiet PySem.F.excBase_ValueError.init.plain _, codeAny_builtin PySem.F.excBase_ValueError.initEntry ?_⟩
  refine PySem.W.exc_init_tree (cls := .ref C) (t0 := t3) (dv := none) (c2 := .none) (c3 := .none) (b4 := .bool false) hoe3 hlen fun h4 k4 hx4 _ => ?_
  have J4 : Inv X [(h2.objs.size, PySem.W.kxs_mw "ValueError.__init__" a)] (L2.start N vs) H1 ⟨h4, g3, d3, tk3, os3⟩ := by
    have J := I3.write (t' := tk3) (x := a) (e := a) (o := exo a C none) (by rw [hea3]; exact True.intro) (.inl rfl) k4 ⟨_, hx4⟩ (exo_ok hx4)
    have eu : upd H1 a (exo a C none) = H1 := by
      funext b
      by_cases hb : b = a
      · rw [hb, upd_same, hea3]
      · rw [upd_ne hb]
    rw [eu] at J
    exact J
  have J5 : Inv X [] (L2.start N vs) H1 ⟨h4, g3, d3, tk3, os3⟩ := J4.pins_of fun p hp => absurd hp (by simp)
  refine wpAt_of_wpAny (wpAny_mono (hq [] _ J5) (fun fl s' hs => ?_) fun e s' hs => hs)
  have fin : ∀ {σ' : L2.St} {H' : Hp} {v : L2.V} {u : Value}, Inv X [] σ' H' s' → RelV v u → Q v H' → CE outer P w H s Q u s' :=
    fun {σ' H' v u} J rv q => ⟨v, H', J.os, J.bare, J.base, J.hok, rv, q⟩
  cases fl with
  | ret u =>
    obtain ⟨v, σ', H', J, rv, q⟩ := hs
    exact fin J rv q
  | next =>
    obtain ⟨σ', H', J, q⟩ := hs
    exact fin (v := V.non) (u := Value.none) J rfl q
  | brk =>
    obtain ⟨_, _, _, q⟩ := hs
    exact False.elim q
  | cont =>
    obtain ⟨_, _, _, q⟩ := hs
    exact False.elim q
end
end Lh.P
set_option Elab.async false
set_option linter.all false
set_option maxRecDepth 100000
set_option maxHeartbeats 4000000
/-! raise X(a, ..), X's own __init__ keeps the arguments as fields. -/
namespace Lh.P
open PySem PySem.Spec PyProof.Rows L2 _root_.SX
/-- the promise of an __init__ with one field, with two -/
def spX1 (K : PySem.W.Frag) (C : Addr) (f1 : Str) : Sp := fun vs H Q _ => vs.length = 2 ∧ ∃ (a : Addr) (y : L2.V) (p : PV) (H0 : Hp), vs = [.ref a, y] ∧ H a = some (exo a C none) ∧ Rep K H0 p y ∧ Same H0 H ∧ pFmt p = .ok () ∧
  ∀ (H' : Hp) (d : Addr), Same H H' → H' d = none → d ≠ a → Q .non (upd (upd H' d (exd d [(f1, y)])) a (exo a C (some d)))
def spX2 (K : PySem.W.Frag) (C : Addr) (f1 f2 : Str) : Sp := fun vs H Q _ => vs.length = 3 ∧ ∃ (a : Addr) (y z : L2.V) (p q : PV) (H0 : Hp), vs = [.ref a, y, z] ∧ H a = some (exo a C none) ∧ Rep K H0 p y ∧ Rep K H0 q z ∧ Same H0 H ∧ pFmt p = .ok () ∧ pFmt q = .ok () ∧
  ∀ (H' : Hp) (d : Addr), Same H H' → H' d = none → d ≠ a → Q .non (upd (upd (upd H' d (exd d [(f1, y)])) a (exo a C (some d))) d (exd d [(f2, z), (f1, y)]))
/-- an error's class, ready to be raised -/
structure ErrI (P : Program) (w : World) (K : PySem.W.Frag) (mg : Str → Option Value) (base : Heap) (k : Nat) (x : Str) (C : Addr) (ps : List Str) (sp : Sp) : Prop where
  cls : OexC K C
  g : mg x = some (.ref C)
  ex : ∃ fI fd, PySem.W.findIn K (.ref C) "__init__" = some (some (.ref fI)) ∧ PySem.W.typeIn K (.ref fI) = some (.type "function") ∧ FnOk P w K mg base (L2.CX P w) k fI fd ps sp ∧ Binds K fd ps []
section
variable {P : Program} {w : World} {K : PySem.W.Frag} {mg : Str → Option Value} {base : Heap} {N ps : List Str} {sf x qual a1 a2 f1 f2 : Str} {C f : Addr} {st : Stmt} {k : Nat} {v1 v2 : Expr} {ptl : List Expr} {jp : Pos} {rest : List Stmt} {p0 p1 p2 p3 p4 : Pos} {ar : Arg}
theorem errI1 (D : ExIni P K mg x qual C f st) (S : InScope [sf, a1] [sf, a1] sf (defScope st))
    (hbd : defBody st = .Expr (.Call (.Attribute (.Call (.Name "super" p0) [] [] p1) "__init__" p2) [.JoinedStr (v1 :: v2 :: ptl) jp] [] p3) p4 :: rest)
    (hp : ((defArgs st).posonlyargs ++ (defArgs st).args).head? = some ar) (har : ar.arg = sf)
    (hsw : ∀ env : PySem.Env, swapsWith (.Call (.Attribute (.Call (.Name "super" p0) [] [] p1) "__init__" p2) [.JoinedStr (v1 :: v2 :: ptl) jp] [] p3) none p4.line env = pure false)
    (hev : ∀ env : PySem.Env, ∃ pl : Sem Bool, eval (.Call (.Attribute (.Call (.Name "super" p0) [] [] p1) "__init__" p2) [.JoinedStr (v1 :: v2 :: ptl) jp] [] p3) env = (do
      let ov ← attributeBase (.Call (.Name "super" p0) [] [] p1) "__init__" env (eval (.Call (.Name "super" p0) [] [] p1) env)
      standAt p2.atName
      let (f, first) ← holding [ov] (getMethod ov "__init__" pl)
      callWith p3 f first (backTo p3 (starEach [.JoinedStr (v1 :: v2 :: ptl) jp] env)) []))
    (hbi : ∀ (kV doc pm : Value) (an : Option Addr) (cdv ct : Value) (cc : Addr) (us : List Value), us.length = 2 → bindArgs (PySem.W.ksFn "__init__" qual (defArgs st) (defBody st) (defScope st) .none kV doc pm an cdv ct cc) ⟨us, []⟩ = pure ([sf, a1].zip us))
    (hl : 2000 * (v1 :: v2 :: ptl).length ≤ 100000)
    (hM : ∀ (cd : Value) (cc : Addr) (A : Around) (outer : List PySem.Env) (s : Shared) (H : Hp) (E : XK), MX (cxS (L2.CX P w) P w K mg base [sf, a1] qual (defScope st) f cd cc A outer s H E) W0 [1] (v1 :: v2 :: ptl) (mFmt (eV 1) mNil))
    (hR : ∀ (cd : Value) (cc : Addr) (A : Around) (outer : List PySem.Env) (s : Shared) (H : Hp) (E : XK), PSs (cxS (L2.CX P w) P w K mg base [sf, a1] qual (defScope st) f cd cc A outer s H E) rest (tOst K f1 (tVar 0) (tVar 1)))
    (hn : PySem.W.findIn K (.ref C) f1 = some none) : ErrI P w K mg base (k + 1) x C [sf, a1] (spX1 K C f1) := by
  obtain ⟨fd, F, B⟩ := super_ok (CX := L2.CX P w) (w := w) (base := base) (k := k) (sp := spX1 K C f1) D S hbd hp har (fun vs H Q E h => h.1) hsw hev (fun _ => rfl) hbi (fun cd cc A outer s H vs Q E hr h => by
    obtain ⟨_, a, y, p, H0, rfl, hea, r, sm, hf, kQ⟩ := h
    refine ⟨a, [y], rfl, hea, ?_⟩
    obtain ⟨ts, pj, hh⟩ := hM cd cc A outer s H E
    refine PE.to (pe_joined pj) ?_
    refine hh [none, some p] _ H0 H Str.empty _ ⟨rfl, fun i hi q hq => ?_⟩ sm (by show 0 + _ ≤ _; omega) ?_
    · obtain rfl := List.mem_singleton.mp hi
      cases hq
      exact ⟨y, rfl, r⟩
    have e : mFmt (eV 1) mNil [none, some p] = .ok () := by
      show (pFmt p).bind (fun _ => mNil [none, some p]) = .ok ()
      rw [hf]
      rfl
    rw [e]
    intro H0' H' g o
    refine ⟨g.b _ _ hea, PSs.to (hR cd cc A outer s H E) ?_⟩
    exact ⟨y, rfl, _, rfl, a, C, rfl, D.cls, hn, .inl ⟨g.b _ _ hea, fun d hd ne => kQ H' d g.b hd ne⟩⟩)
  exact ⟨D.cls, D.g, f, fd, D.ini, D.ty, F, B⟩
theorem errI2 (D : ExIni P K mg x qual C f st) (S : InScope [sf, a1, a2] [sf, a1, a2] sf (defScope st))
    (hbd : defBody st = .Expr (.Call (.Attribute (.Call (.Name "super" p0) [] [] p1) "__init__" p2) [.JoinedStr (v1 :: v2 :: ptl) jp] [] p3) p4 :: rest)
    (hp : ((defArgs st).posonlyargs ++ (defArgs st).args).head? = some ar) (har : ar.arg = sf)
    (hsw : ∀ env : PySem.Env, swapsWith (.Call (.Attribute (.Call (.Name "super" p0) [] [] p1) "__init__" p2) [.JoinedStr (v1 :: v2 :: ptl) jp] [] p3) none p4.line env = pure false)
    (hev : ∀ env : PySem.Env, ∃ pl : Sem Bool, eval (.Call (.Attribute (.Call (.Name "super" p0) [] [] p1) "__init__" p2) [.JoinedStr (v1 :: v2 :: ptl) jp] [] p3) env = (do
      let ov ← attributeBase (.Call (.Name "super" p0) [] [] p1) "__init__" env (eval (.Call (.Name "super" p0) [] [] p1) env)
      standAt p2.atName
      let (f, first) ← holding [ov] (getMethod ov "__init__" pl)
      callWith p3 f first (backTo p3 (starEach [.JoinedStr (v1 :: v2 :: ptl) jp] env)) []))
    (hbi : ∀ (kV doc pm : Value) (an : Option Addr) (cdv ct : Value) (cc : Addr) (us : List Value), us.length = 3 → bindArgs (PySem.W.ksFn "__init__" qual (defArgs st) (defBody st) (defScope st) .none kV doc pm an cdv ct cc) ⟨us, []⟩ = pure ([sf, a1, a2].zip us))
    (hl : 2000 * (v1 :: v2 :: ptl).length ≤ 100000)
    (hM : ∀ (cd : Value) (cc : Addr) (A : Around) (outer : List PySem.Env) (s : Shared) (H : Hp) (E : XK), MX (cxS (L2.CX P w) P w K mg base [sf, a1, a2] qual (defScope st) f cd cc A outer s H E) W0 [1, 2] (v1 :: v2 :: ptl) (mFmt (eV 1) (mFmt (eV 2) mNil)))
    (hR : ∀ (cd : Value) (cc : Addr) (A : Around) (outer : List PySem.Env) (s : Shared) (H : Hp) (E : XK), PSs (cxS (L2.CX P w) P w K mg base [sf, a1, a2] qual (defScope st) f cd cc A outer s H E) rest (fun D σ H => tOst K f1 (tVar 0) (tVar 1) { D with nx := fun σ1 H1 => tOst K f2 (tVar 0) (tVar 2) D σ1 H1 } σ H))
    (hn : PySem.W.findIn K (.ref C) f1 = some none) (hn2 : PySem.W.findIn K (.ref C) f2 = some none) : ErrI P w K mg base (k + 1) x C [sf, a1, a2] (spX2 K C f1 f2) := by
  obtain ⟨fd, F, B⟩ := super_ok (CX := L2.CX P w) (w := w) (base := base) (k := k) (sp := spX2 K C f1 f2) D S hbd hp har (fun vs H Q E h => h.1) hsw hev (fun _ => rfl) hbi (fun cd cc A outer s H vs Q E hr h => by
    obtain ⟨_, a, y, z, p, q, H0, rfl, hea, r, r2, sm, hf, hf2, kQ⟩ := h
    refine ⟨a, [y, z], rfl, hea, ?_⟩
    obtain ⟨ts, pj, hh⟩ := hM cd cc A outer s H E
    refine PE.to (pe_joined pj) ?_
    refine hh [none, some p, some q] _ H0 H Str.empty _ ⟨rfl, fun i hi u hu => ?_⟩ sm (by show 0 + _ ≤ _; omega) ?_
    · rcases List.mem_cons.mp hi with rfl | hi
      · cases hu
        exact ⟨y, rfl, r⟩
      · obtain rfl := List.mem_singleton.mp hi
        cases hu
        exact ⟨z, rfl, r2⟩
    have e : mFmt (eV 1) (mFmt (eV 2) mNil) [none, some p, some q] = .ok () := by
      show (pFmt p).bind (fun _ => (pFmt q).bind fun _ => mNil [none, some p, some q]) = .ok ()
      rw [hf]
      show (pFmt q).bind (fun _ => mNil [none, some p, some q]) = .ok ()
      rw [hf2]
      rfl
    rw [e]
    intro H0' H' g o
    refine ⟨g.b _ _ hea, PSs.to (hR cd cc A outer s H E) ?_⟩
    refine ⟨y, rfl, _, rfl, a, C, rfl, D.cls, hn, .inl ⟨g.b _ _ hea, fun d hd ne => ?_⟩⟩
    exact ⟨z, rfl, _, rfl, a, C, rfl, D.cls, hn2, .inr ⟨d, [(f1, y)], upd_same, by rw [upd_ne ne, upd_same], by show 1 ≤ 900; decide, kQ H' d g.b hd ne⟩⟩)
  exact ⟨D.cls, D.g, f, fd, D.ini, D.ty, F, B⟩
end
section
variable {K : PySem.W.Frag} {W : WX} {Z : Zn} {M : Md} {O O' : List Nat} {D : Ends}
/-- the heap behind C(..) that was made to be raised -/
theorem exo_end {H1 H' : Hp} {a d C : Addr} {fs gs : List (Str × L2.V)} (s : Same (upd H1 a (exo a C none)) H') (n : H1 a = none) (hd : H' d = none) (ne : d ≠ a) :
    H1 d = none ∧ Same H1 (upd (del (upd (upd H' d (exd d gs)) a (exo a C (some d))) a) d (.xd fs)) := by
  have n2 : H1 d = none := by
    cases e : H1 d with
    | none => rfl
    | some o =>
      have := s d o (by rw [upd_ne ne]; exact e)
      rw [hd] at this
      cases this
  refine ⟨n2, fun b o h => ?_⟩
  have hb : b ≠ a := fun z => by rw [z, n] at h; cases h
  have hb2 : b ≠ d := fun z => by rw [z, n2] at h; cases h
  rw [upd_ne hb2, del_ne hb, upd_ne hb, upd_ne hb2]
  exact s b o (by rw [upd_ne hb]; exact h)
theorem exo_end2 {H1 H' : Hp} {a d C : Addr} {fs gs hs : List (Str × L2.V)} (s : Same (upd H1 a (exo a C none)) H') (n : H1 a = none) (hd : H' d = none) (ne : d ≠ a) :
    Same H1 (upd (del (upd (upd (upd H' d (exd d gs)) a (exo a C (some d))) d (exd d hs)) a) d (.xd fs)) := fun b o h => by
  obtain ⟨n2, _⟩ := exo_end (C := C) (fs := fs) (gs := gs) s n hd ne
  have hb : b ≠ a := fun z => by rw [z, n] at h; cases h
  have hb2 : b ≠ d := fun z => by rw [z, n2] at h; cases h
  rw [upd_ne hb2, del_ne hb, upd_ne hb2, upd_ne hb, upd_ne hb2]
  exact s b o (by rw [upd_ne hb]; exact h)
end
section
variable {X : Cx} {W : WX} {M : Md} {V O O' : List Nat} {e e2 : Expr} {x f1 f2 : Str} {C : Addr} {ps : List Str} {j k : Nat} {p pos pos' : Pos} {fa : Env → Rs (List PV)}
def dRaise1 (C : Addr) (f1 : Str) (fa : Env → Rs (List PV)) : Env → Out := fun Γ => outE (fa Γ) Γ fun ps => match ps with
  | [p] => (match pFmt p with
    | .ok _ => .exc C [(f1, p)] Γ
    | _ => .bad)
  | _ => .bad
def dRaise2 (C : Addr) (f1 f2 : Str) (fa : Env → Rs (List PV)) : Env → Out := fun Γ => outE (fa Γ) Γ fun ps => match ps with
  | [p, q] => (match pFmt p, pFmt q with
    | .ok _, .ok _ => .exc C [(f2, q), (f1, p)] Γ
    | _, _ => .bad)
  | _ => .bad
theorem fmt_rep {K : PySem.W.Frag} {Ha Hb : Hp} {q : PV} {u : Unit} {v : L2.V} (h : pFmt q = .ok u) (r : Rep K Ha q v) : Rep K Hb q v := by
  cases q with
  | int i => exact r
  | str s => exact r
  | _ => cases h
theorem s_raise1 (R : ErrI X.prog X.w X.K X.mg X.base k x C ps (spX1 X.K C f1)) (hr : Room j X.A) (hc : X.calm = true) (tk : Takes X W) (ha : AX X W V [e] fa) (ok : OkO M O) (hk : k + 1 ≤ j := by decide) (hg : Gl X x := by rfl) (hdb : (x == ("__debug__" : Str)) = false := by decide)
    (he : starEach [e] X.env = (false, eval e X.env) :: starEach [] X.env := by rfl) (hpl : (backTo pos (starEach [] X.env)).any (·.1) = false := by rfl) : SX X W M O O' (.Raise (some (.Call (.Name x p) [e] [] pos)) none pos') (dRaise1 C f1 fa) := fun Z Γ σ H0 H D io E pp => by
  obtain ⟨fI, fd, iC, tI, F, B⟩ := R.ex
  refine PS.to (ps_raise hc tk (pmk_oex (dvs := []) R.cls iC tI F (hr.mono hk) B .nil (passes_call tk fun _ _ _ _ h => False.elim h) hg R.g pa_of hdb he hpl)) ?_
  let Qf : List L2.V → Hp → Prop := fun vs H1 => vs.length ≤ 1000 ∧ ∀ a, H1 a = none → spX1 X.K C f1 (.ref a :: (vs ++ [])) (upd H1 a (exo a C none))
    (fun v H2 => v = .non ∧ ∃ (d : Addr) (fs : List (Str × L2.V)), H2 a = some (exo a C (some d)) ∧ H2 d = some (exd d fs) ∧ H1 d = none ∧ W (.ref C) (some d) σ (upd (del H2 a) d (.xd fs))) (fun _ _ _ => False)
  show taOf X [e] σ H Qf
  refine lend_post (V := V) (good := fun qs H0' H' => Same H0' H' → gA X.K Qf qs H0' H') (R := fun _ H => taOf X [e] σ H Qf) io ok E pp (fun j => j ∈ V) (fun j hj _ => hj) (fun H0p sh sm q => ha Γ σ H0p H _ sh sm (q.mono fun qs H0' H' g h => h g.c)) fun qs H0' H' hqs pn L sc vs rs => ?_
  obtain ⟨sH, _, H0'', E2, _⟩ := L
  match qs, pn, rs with
  | [q], pn, rs =>
    obtain ⟨v, rfl, rv⟩ := reps1 rs
    have pn : PostS X.K W Z M O' D (match pFmt q with
      | .ok _ => .exc C [(f1, q)] Γ
      | _ => .bad) := pn
    cases hq : pFmt q with
    | ok u =>
      rw [hq] at pn
      refine ⟨by show 1 ≤ 1000; decide, fun a ha => ⟨rfl, a, v, q, H0', rfl, upd_same, rv, sc.trans (same_new ha), hq, fun H3 d s3 hd ne => ?_⟩⟩
      obtain ⟨n2, sf⟩ := exo_end (C := C) (fs := [(f1, v)]) (gs := [(f1, v)]) s3 ha hd ne
      refine ⟨rfl, d, [(f1, v)], upd_same, by rw [upd_ne ne, upd_same], n2, ?_⟩
      obtain ⟨H4, _, _, E3⟩ := (E2.grow ⟨fun _ _ h => h, sf, E2.c.trans sf, fun _ h => .inl h⟩).freeze ok.ox fun q hq => ok.io _ (io q hq)
      exact pn (some d) σ H4 _ E3 (.inr ⟨d, [(f1, v)], rfl, upd_same, ⟨rfl, fmt_rep hq rv, trivial⟩, by simp⟩)
    | ex _ _ => rw [hq] at pn; exact False.elim pn
    | bad => rw [hq] at pn; exact False.elim pn
theorem s_raise2 (R : ErrI X.prog X.w X.K X.mg X.base k x C ps (spX2 X.K C f1 f2)) (hr : Room j X.A) (hc : X.calm = true) (tk : Takes X W) (ha : AX X W V [e, e2] fa) (ok : OkO M O) (hk : k + 1 ≤ j := by decide) (hg : Gl X x := by rfl) (hdb : (x == ("__debug__" : Str)) = false := by decide)
    (he : starEach [e, e2] X.env = (false, eval e X.env) :: starEach [e2] X.env := by rfl) (hpl : (backTo pos (starEach [e2] X.env)).any (·.1) = false := by rfl) : SX X W M O O' (.Raise (some (.Call (.Name x p) [e, e2] [] pos)) none pos') (dRaise2 C f1 f2 fa) := fun Z Γ σ H0 H D io E pp => by
  obtain ⟨fI, fd, iC, tI, F, B⟩ := R.ex
  refine PS.to (ps_raise hc tk (pmk_oex (dvs := []) R.cls iC tI F (hr.mono hk) B .nil (passes_call tk fun _ _ _ _ h => False.elim h) hg R.g pa_of hdb he hpl)) ?_
  let Qf : List L2.V → Hp → Prop := fun vs H1 => vs.length ≤ 1000 ∧ ∀ a, H1 a = none → spX2 X.K C f1 f2 (.ref a :: (vs ++ [])) (upd H1 a (exo a C none))
    (fun v H2 => v = .non ∧ ∃ (d : Addr) (fs : List (Str × L2.V)), H2 a = some (exo a C (some d)) ∧ H2 d = some (exd d fs) ∧ H1 d = none ∧ W (.ref C) (some d) σ (upd (del H2 a) d (.xd fs))) (fun _ _ _ => False)
  show taOf X [e, e2] σ H Qf
  refine lend_post (V := V) (good := fun qs H0' H' => Same H0' H' → gA X.K Qf qs H0' H') (R := fun _ H => taOf X [e, e2] σ H Qf) io ok E pp (fun j => j ∈ V) (fun j hj _ => hj) (fun H0p sh sm q => ha Γ σ H0p H _ sh sm (q.mono fun qs H0' H' g h => h g.c)) fun qs H0' H' hqs pn L sc vs rs => ?_
  obtain ⟨sH, _, H0'', E2, _⟩ := L
  match qs, pn, rs with
  | [q, q2], pn, rs =>
    obtain ⟨v, v2, rfl, rv, rv2⟩ := reps2 rs
    have pn : PostS X.K W Z M O' D (match pFmt q, pFmt q2 with
      | .ok _, .ok _ => .exc C [(f2, q2), (f1, q)] Γ
      | _, _ => .bad) := pn
    cases hq : pFmt q with
    | ok u =>
      cases hq2 : pFmt q2 with
      | ok u2 =>
        rw [hq, hq2] at pn
        refine ⟨by show 2 ≤ 1000; decide, fun a ha => ⟨rfl, a, v, v2, q, q2, H0', rfl, upd_same, rv, rv2, sc.trans (same_new ha), hq, hq2, fun H3 d s3 hd ne => ?_⟩⟩
        obtain ⟨n2, _⟩ := exo_end (C := C) (fs := [(f2, v2), (f1, v)]) (gs := [(f1, v)]) s3 ha hd ne
        have sf := exo_end2 (C := C) (fs := [(f2, v2), (f1, v)]) (gs := [(f1, v)]) (hs := [(f2, v2), (f1, v)]) s3 ha hd ne
        refine ⟨rfl, d, [(f2, v2), (f1, v)], by rw [upd_ne ne.symm, upd_same], upd_same, n2, ?_⟩
        obtain ⟨H4, _, _, E3⟩ := (E2.grow ⟨fun _ _ h => h, sf, E2.c.trans sf, fun _ h => .inl h⟩).freeze ok.ox fun q hq => ok.io _ (io q hq)
        exact pn (some d) σ H4 _ E3 (.inr ⟨d, [(f2, v2), (f1, v)], rfl, upd_same, ⟨rfl, fmt_rep hq2 rv2, rfl, fmt_rep hq rv, trivial⟩, by simp⟩)
      | ex _ _ => rw [hq, hq2] at pn; exact False.elim pn
      | bad => rw [hq, hq2] at pn; exact False.elim pn
    | ex _ _ => rw [hq] at pn; exact False.elim (by cases pFmt q2 <;> exact pn)
    | bad => rw [hq] at pn; exact False.elim (by cases pFmt q2 <;> exact pn)
end
end Lh.P
set_option Elab.async false
set_option linter.all false
set_option maxRecDepth 100000
set_option maxHeartbeats 4000000
/-! More built-ins. -/
namespace Lh.P
open PySem PySem.Spec PyProof.Rows L2 _root_.SX
section
variable {X : Cx}
def pMax2 : List PV → Rs PV
  | [.int i, .int j] => .ok (.int (if j > i then j else i))
  | _ => .bad
def pMin2 : List PV → Rs PV
  | [.int i, .int j] => .ok (.int (if j < i then j else i))
  | _ => .bad
theorem c_max2 (hc : X.calm = true) : CallP X (.builtin "max") pMax2 := ⟨_, call_max2 hc, fun W σ ps vs H0 H Q rs sm hh => by
  match ps, hh with
  | [.int i, .int j], hh =>
    obtain ⟨v, w, rfl, r1, r2⟩ := reps2 rs
    exact ⟨i, j, by rw [show v = .int i from r1, show w = .int j from r2], pV sm hh rfl⟩⟩
theorem c_min2 (hc : X.calm = true) : CallP X (.builtin "min") pMin2 := ⟨_, call_min2 hc, fun W σ ps vs H0 H Q rs sm hh => by
  match ps, hh with
  | [.int i, .int j], hh =>
    obtain ⟨v, w, rfl, r1, r2⟩ := reps2 rs
    exact ⟨i, j, by rw [show v = .int i from r1, show w = .int j from r2], pV sm hh rfl⟩⟩
end
end Lh.P
set_option Elab.async false
set_option linter.all false
set_option maxRecDepth 100000
set_option maxHeartbeats 4000000
/-! except X as e, the error with fields; e.f. -/
namespace Lh.P
open PySem PySem.Spec PyProof.Rows L2 _root_.SX
mutual
/-- no caught error within -/
def noE : PV → Bool
  | .exr _ _ _ _ => false
  | .tup xs => noEs xs
  | .lst xs => noEs xs
  | .ins _ fs => noEf fs
  | .dic ks => noEk ks
  | .tun xs => noEs xs
  | _ => true
def noEs : List PV → Bool
  | [] => true
  | x :: xs => noE x && noEs xs
def noEf : List (Str × PV) → Bool
  | [] => true
  | (_, x) :: xs => noE x && noEf xs
def noEk : List (L2.Key × PV) → Bool
  | [] => true
  | (_, x) :: xs => noE x && noEk xs
end
def noEE (Γ : Env) : Bool := Γ.all fun o => match o with
  | some p => noE p
  | none => true
def noEO : Out → Bool
  | .next Γ => noEE Γ
  | .ret p Γ => noE p && noEE Γ
  | .brk Γ => noEE Γ
  | .cont Γ => noEE Γ
  | _ => true
/-- without the dict at dx, if b -/
def cut (b : Prop) (dx : Addr) (H : Hp) [Decidable b] : Hp := fun a => if b ∧ a = dx then none else H a
section
variable {K : PySem.W.Frag} {H H' : Hp} {dx : Addr} {gs0 : List (Str × L2.V)} {b : Prop} [Decidable b]
theorem cut_ne {a : Addr} {o : HO} (h : H a = some o) (hx : H dx = some (.xd gs0)) (n : ∀ gs, o ≠ .xd gs) : cut b dx H a = some o := by
  unfold cut
  rw [if_neg]
  · exact h
  · rintro ⟨_, rfl⟩
    rw [hx] at h
    exact n _ (Option.some.inj h).symm
mutual
theorem rep_noE (hx : H dx = some (.xd gs0)) : ∀ (p : PV) (v : L2.V), noE p = true → Rep K H p v → Rep K (cut b dx H) p v
  | .non, _, _, r => r
  | .bl _, _, _, r => r
  | .int _, _, _, r => r
  | .str _, _, _, r => r
  | .tup xs, v, n, r => by
    obtain ⟨a, vs, e, h1, rs⟩ := r
    exact ⟨a, vs, e, cut_ne h1 hx (fun _ z => nomatch z), reps_noE hx xs vs (by unfold noE at n; exact n) rs⟩
  | .lst xs, v, n, r => by
    obtain ⟨a, vs, e, h1, rs⟩ := r
    exact ⟨a, vs, e, cut_ne h1 hx (fun _ z => nomatch z), reps_noE hx xs vs (by unfold noE at n; exact n) rs⟩
  | .ins C fs, v, n, r => by
    obtain ⟨a, d, ws, e, h1, rs⟩ := r
    exact ⟨a, d, ws, e, cut_ne h1 hx (fun _ z => nomatch z), repf_noE hx fs ws (by unfold noE at n; exact n) rs⟩
  | .exr _ _ _ _, _, n, _ => by unfold noE at n; cases n
  | .tun xs, v, n, r => by
    obtain ⟨a, vs, e, ⟨o, h1, nd⟩, rs⟩ := r
    exact ⟨a, vs, e, ⟨o, cut_ne h1 hx (fun _ z => nomatch z), nd⟩, reps_noE hx xs vs (by unfold noE at n; exact n) rs⟩
  | .dic ks, v, n, r => by
    obtain ⟨a, ws, e, h1, rs⟩ := r
    exact ⟨a, ws, e, cut_ne h1 hx (fun _ z => nomatch z), repk_noE hx ks ws (by unfold noE at n; exact n) rs⟩
  | .scr ns, v, _, r => by
    obtain ⟨a, e, h1⟩ := r
    refine ⟨a, e, ?_⟩
    rcases h1 with (h1 | ⟨o, h1⟩) | h1
    · exact .inl (.inl (cut_ne h1 hx fun _ z => nomatch z))
    · exact .inl (.inr ⟨o, cut_ne h1 hx fun _ z => nomatch z⟩)
    · exact .inr h1
theorem reps_noE (hx : H dx = some (.xd gs0)) : ∀ (p : List PV) (v : List L2.V), noEs p = true → Reps K H p v → Reps K (cut b dx H) p v
  | [], [], _, _ => trivial
  | [], _ :: _, _, z => False.elim z
  | _ :: _, [], _, z => False.elim z
  | x :: xs, v :: vs, n, ⟨r, rs⟩ => by
    unfold noEs at n
    rw [Bool.and_eq_true] at n
    exact ⟨rep_noE hx x v n.1 r, reps_noE hx xs vs n.2 rs⟩
theorem repf_noE (hx : H dx = some (.xd gs0)) : ∀ (p : List (Str × PV)) (v : List (Str × L2.V)), noEf p = true → RepF K H p v → RepF K (cut b dx H) p v
  | [], [], _, _ => trivial
  | [], _ :: _, _, z => False.elim z
  | _ :: _, [], _, z => False.elim z
  | (f, x) :: xs, (g, v) :: vs, n, ⟨e, r, rs⟩ => by
    unfold noEf at n
    rw [Bool.and_eq_true] at n
    exact ⟨e, rep_noE hx x v n.1 r, repf_noE hx xs vs n.2 rs⟩
theorem repk_noE (hx : H dx = some (.xd gs0)) : ∀ (p : List (L2.Key × PV)) (v : List (L2.Key × L2.V)), noEk p = true → RepK K H p v → RepK K (cut b dx H) p v
  | [], [], _, _ => trivial
  | [], _ :: _, _, z => False.elim z
  | _ :: _, [], _, z => False.elim z
  | (f, x) :: xs, (g, v) :: vs, n, ⟨e, r, rs⟩ => by
    unfold noEk at n
    rw [Bool.and_eq_true] at n
    exact ⟨e, rep_noE hx x v n.1 r, repk_noE hx xs vs n.2 rs⟩
end
theorem root_noE (hx : H dx = some (.xd gs0)) {a : Addr} {p : PV} (n : noE p = true) (r : Root K H H' a p) : Root K (cut b dx H) H' a p := by
  cases p with
  | lst xs => obtain ⟨vs, h, rs⟩ := r; exact ⟨vs, h, reps_noE hx _ _ (by unfold noE at n; exact n) rs⟩
  | ins C fs => obtain ⟨d, gs, h, rs⟩ := r; exact ⟨d, gs, h, repf_noE hx _ _ (by unfold noE at n; exact n) rs⟩
  | dic ks => obtain ⟨gs, h, rs⟩ := r; exact ⟨gs, h, repk_noE hx _ _ (by unfold noE at n; exact n) rs⟩
  | _ => exact False.elim r
end
section
variable {K : PySem.W.Frag} {Z : Zn} {M : Md} {O O' : List Nat} {D : Ends} {H0 H : Hp} {Γ : Env} {σ : L2.St} {i : Nat} {dx : Addr} {gs : List (Str × L2.V)}
theorem noEE_get (h : noEE Γ = true) {j : Nat} {p : PV} (e : Γ[j]? = some (some p)) : noE p = true := by
  unfold noEE at h
  exact List.all_eq_true.mp h (some p) (List.mem_of_getElem? e)
theorem root_ne {H0 H : Hp} {a dx : Addr} {p : PV} {gs : List (Str × L2.V)} (r : Root K H0 H a p) (hx : H dx = some (.xd gs)) : a ≠ dx := fun z => by
  cases p with
  | lst xs => obtain ⟨vs, h, _⟩ := r; rw [z, hx] at h; cases h
  | ins C fs => obtain ⟨d, gs, h, _⟩ := r; rw [z, hx] at h; cases h
  | dic ks => obtain ⟨gs, h, _⟩ := r; rw [z, hx] at h; cases h
  | _ => exact False.elim r
/-- the error's dict is told for good -/
theorem EnvOk.tell (E : EnvOk K Z O H0 H Γ σ) (hx : H dx = some (.xd gs)) : Same H0 (upd H0 dx (.xd gs)) ∧ EnvOk K { Z with H00 := upd H0 dx (.xd gs) } O (upd H0 dx (.xd gs)) H Γ σ := by
  have s0 : Same H0 (upd H0 dx (.xd gs)) := fun b o h => by
    by_cases e : b = dx
    · subst e
      have := E.c _ _ h
      rw [hx] at this
      rw [upd_same]
      exact this
    · rw [upd_ne e]; exact h
  obtain ⟨ρ, h1, h2⟩ := E.own
  refine ⟨s0, E.len, fun _ _ h => h, E.b, fun b o h => ?_, fun _ h => .inl h, fun j p hp hj => ?_, ρ, fun j hj p hp sp => ?_, h2⟩
  · by_cases e : b = dx
    · subst e; rw [upd_same] at h; rw [hx]; exact h
    · rw [upd_ne e] at h; exact E.c _ _ h
  · obtain ⟨v, k1, k2⟩ := E.vals j p hp hj
    exact ⟨v, k1, Rep.mono s0 _ _ k2⟩
  · obtain ⟨k1, k2, k3, k4, k5⟩ := h1 j hj p hp sp
    exact ⟨k1, Root.mono s0 (fun _ _ h => h) k2, by rw [upd_ne (root_ne k2 hx)]; exact k3, k4, k5⟩
open Classical in
/-- behind the suite it is no longer told, if it was not before -/
theorem EnvOk.untell {He : Hp} {H0e : Hp} {Γe : Env} {σe : L2.St} (E : EnvOk K Z O H0 H Γ σ) (hx : H dx = some (.xd gs)) (E2 : EnvOk K { Z with H00 := upd H0 dx (.xd gs) } O' H0e He Γe σe) (n : noEE Γe = true) :
    H0e dx = some (.xd gs) ∧ EnvOk K Z O' (cut (H0 dx = none) dx H0e) He Γe σe := by
  have hd : H0e dx = some (.xd gs) := E2.a _ _ upd_same
  have hs : ∀ {b o}, cut (H0 dx = none) dx H0e b = some o → H0e b = some o := fun {b o} h => by
    unfold cut at h
    split at h
    · cases h
    · exact h
  have hc : ∀ {b o}, H0 b = some o → cut (H0 dx = none) dx H0e b = H0e b := fun {b o} h => by
    unfold cut
    rw [if_neg]
    rintro ⟨e, rfl⟩
    rw [e] at h; cases h
  have s0 : Same H0 (upd H0 dx (.xd gs)) := (E.tell hx).1
  obtain ⟨ρ, h1, h2⟩ := E2.own
  refine ⟨hd, E2.len, fun b o h => ?_, E2.b, fun b o h => E2.c _ _ (hs h), fun b h => ?_, fun j p hp hj => ?_, ρ, fun j hj p hp sp => ?_, h2⟩
  · have h3 := E.a _ _ h
    rw [hc h3]
    exact E2.a _ _ (s0 _ _ h3)
  · obtain ⟨o, ho⟩ : ∃ o, cut (H0 dx = none) dx H0e b = some o := by
      cases e : cut (H0 dx = none) dx H0e b with
      | none => exact absurd e h
      | some o => exact ⟨o, rfl⟩
    rcases E2.d b (by rw [hs ho]; simp) with z | z
    · have z : upd H0 dx (.xd gs) b ≠ none := z
      by_cases e : b = dx
      · subst e
        by_cases e0 : H0 b = none
        · unfold cut at ho
          rw [if_pos ⟨e0, rfl⟩] at ho
          cases ho
        · exact E.d b e0
      · rw [upd_ne e] at z
        exact E.d b z
    · exact .inr z
  · obtain ⟨v, k1, k2⟩ := E2.vals j p hp hj
    exact ⟨v, k1, rep_noE hd _ _ (noEE_get n hp) k2⟩
  · obtain ⟨k1, k2, k3, k4, k5⟩ := h1 j hj p hp sp
    refine ⟨k1, root_noE hd (noEE_get n hp) k2, ?_, k4, k5⟩
    cases e : cut (H0 dx = none) dx H0e (ρ j) with
    | none => rfl
    | some o => rw [hs e] at k3; cases k3
end
end Lh.P
set_option Elab.async false
set_option linter.all false
set_option maxRecDepth 100000
set_option maxHeartbeats 4000000
/-! The clause with a name, errors with fields too. -/
namespace Lh.P
open PySem PySem.Spec PyProof.Rows L2 _root_.SX
theorem noEE_set {Γ : Env} {i : Nat} (h : noEE (Γ.set i none) = true) {j : Nat} (hj : j ≠ i) {p : PV} (e : Γ[j]? = some (some p)) : noE p = true :=
  noEE_get h (by rw [List.getElem?_set_ne hj.symm]; exact e)
section
variable {K : PySem.W.Frag} {W : WX} {Z : Zn} {M : Md} {O O' : List Nat} {D : Ends} {H0 H : Hp} {Γ : Env} {σ : L2.St} {i : Nat} {dx : Addr} {gs : List (Str × L2.V)}
/-- behind a suite with a name, to which the error's dict was told -/
theorem PostS.strip2 (E : EnvOk K Z O H0 H Γ σ) (hx : H dx = some (.xd gs)) (h1 : i ∉ O') (h2 : i ∉ M.IO) (h3 : i ∉ M.OL) : ∀ {o : Out}, noEO (stripO i o) = true → PostS K W Z M O' D (stripO i o) →
    PostS K W0 { Z with H00 := upd H0 dx (.xd gs) } M O' { nx := fun σ' H' => D.nx (σ'.set i none) H', rt := D.rt, bk := fun σ' H' => D.bk (σ'.set i none) H', ct := fun σ' H' => D.ct (σ'.set i none) H' } o
  | .next _, n, p => fun σ H0 H E2 => p _ _ _ (E.untell hx (E2.unset h1) n).2
  | .ret q Γ, n, p => by
    have n : (noE q && noEE (Γ.set i none)) = true := n
    rw [Bool.and_eq_true] at n
    have p : if M.R then _ else _ := p
    show if M.R then _ else _
    split at p
    · rename_i hr
      rw [if_pos hr]
      refine ⟨fun s v σ H0 H E2 r => ?_, fun a σ H0 H E2 n0 n1 r => ?_⟩
      · obtain ⟨hd, E3⟩ := E.untell hx (E2.unset h2) n.2
        exact p.1 s v _ _ _ E3 (rep_noE hd _ _ n.1 r)
      · obtain ⟨hd, E3⟩ := E.untell hx (E2.unset h2) n.2
        refine p.2 a _ _ _ E3 ?_ n1 (root_noE hd n.1 r)
        unfold cut
        split
        · rfl
        · exact n0
    · rename_i hr
      rw [if_neg hr]
      exact fun v σ H0 H E2 r => by
        obtain ⟨hd, E3⟩ := E.untell hx (E2.unset h2) n.2
        exact p v _ _ _ E3 (rep_noE hd _ _ n.1 r)
  | .brk _, n, p => fun σ H0 H E2 => p _ _ _ (E.untell hx (E2.unset h3) n).2
  | .cont _, n, p => fun σ H0 H E2 => p _ _ _ (E.untell hx (E2.unset h3) n).2
  | .exc _ _ _, _, p => False.elim p
  | .bad, _, p => p
end
/-- where the fields would stand -/
def d0 (fs : List (Str × PV)) : Option Addr := if fs = [] then none else some 0
/-- the suite's worth, wherever the error lies -/
def baseE (i : Nat) (C : Addr) (fs : List (Str × PV)) (g : Addr → Addr → Option Addr → Env → Out) (Γ : Env) : Out := stripO i (g 0 C (if fs.isEmpty then none else some 0) (Γ.set i (some (.exr 0 C (if fs.isEmpty then none else some 0) fs))))
open Classical in
noncomputable def dTryE (A : Ad) (i : Nat) (x : Str) (f : Env → Out) (g : Addr → Addr → Option Addr → Env → Out) : Env → Out := fun Γ => match f Γ with
  | .exc C fs Γ' => (match A.isa C x with
    | some true => if (∀ a d, (fs = [] ↔ d = none) → stripO i (g a C d (Γ'.set i (some (.exr a C d fs)))) = baseE i C fs g Γ') ∧ (fs = [] ∨ noEO (baseE i C fs g Γ') = true) then baseE i C fs g Γ' else .bad
    | some false => .exc C fs Γ'
    | none => .bad)
  | o => o
section
variable {X : Cx} {W : WX} {M : Md} {V O O' : List Nat} {body suite : List Stmt} {b₀ : Stmt} {pos pos' np : Pos} {x n : Str} {i : Nat} {A : Ad}
theorem s_tryE {f : Env → Out} {g : Addr → Addr → Option Addr → Env → Out} (hE : Errs X.K X.mg A) (hN : X.N.Nodup) (hi : X.N[i]? = some n) (hln : X.env.kindOf n = some .local) (hc : Names X x (.ref (A x))) (tk : Takes X W)
    (hB : ∀ (W' : WX) (pn : List (Addr × Obj)) (xe : Value → Shared → Prop), Takes (X.tr pn xe) W' → PassesOwn (model X.prog X.w) X.A X.env xe → BX (X.tr pn xe) W' M O O' body f)
    (hh : ∀ (a C : Addr) (d : Option Addr) (oe : Obj) (pn : List (Addr × Obj)), Zc (.ref C) d oe → (∃ vs, oe.data = .fields vs) → BX (X.suite a ((a, oe) :: pn)) W0 M M.OX O' (b₀ :: suite) (g a C d))
    (i1 : i ∉ O') (i2 : i ∉ M.IO) (i3 : i ∉ M.OL) (i4 : i ∉ M.OX) (hs : X.stack = X.env :: X.outer := by rfl) (hf : X.env.frame = some X.env.locals := by rfl) : SX X W M O O' (.Try body [.ExceptHandler (some (.Name x np)) (some n) (b₀ :: suite) pos'] [] [] pos) (dTryE A i x f g) := fun Z Γ σ H0 H D io E p => by
  refine PS.to (ps_try_as hs hf hN hi hln hc tk tb_ok ts_ok) ?_
  intro pn xe tk2 pa
  refine hB _ pn xe tk2 pa Z Γ σ H0 H D io E ?_
  show PostS X.K _ Z M O' D (f Γ)
  unfold dTryE at p
  cases hf : f Γ with
  | exc C fs Γ' =>
    rw [hf] at p
    dsimp only at p
    intro d σ' H0' H' E' rx
    cases ha : A.isa C x with
    | none => rw [ha] at p; exact False.elim p
    | some b =>
      rw [ha] at p
      refine ⟨b, hE.isa C x b ha, fun hb1 a na oe pn hz hfl => ?_, fun hb1 => ?_⟩
      · subst hb1
        dsimp only at p
        split at p
        · rename_i hc
          obtain ⟨e1, e2⟩ := hc
          rcases rx with ⟨h1, h2⟩ | ⟨dx, gs, h1, h2, h3, h4⟩
          · subst h1 h2
            rw [← e1 a none (by simp)] at p
            exact hh a C none oe pn hz hfl Z _ _ H0' H' _ io (E'.put i4 (show Rep X.K H0' (.exr a C none []) (.ref a) from ⟨rfl, .inl ⟨rfl, rfl⟩⟩)) (p.strip i1 i2 i3)
          · subst h1
            have e2 := e2.resolve_left h4
            have k := e1 a (some dx) (by simp [h4])
            rw [← k] at p e2
            obtain ⟨s0, E2⟩ := E'.tell h2
            exact hh a C (some dx) oe pn hz hfl { Z with H00 := upd H0' dx (.xd gs) } _ _ _ H' _ io (E2.put i4 (show Rep X.K (upd H0' dx (.xd gs)) (.exr a C (some dx) fs) (.ref a) from ⟨rfl, .inr ⟨dx, gs, rfl, upd_same, RepF.mono s0 _ _ h3⟩⟩)) (p.strip2 E' h2 i1 i2 i3 e2)
        · exact False.elim p
      · subst hb1
        exact p d σ' H0' H' E' rx
  | _ => rw [hf] at p; exact p
end
/-- e.n, e the error that was caught -/
def pFldE (a C : Addr) (d : Option Addr) (n : Str) : PV → Rs PV
  | .exr b D d' fs => if b = a ∧ D = C ∧ d' = d then (match fs.lookup n with
    | some p => .ok p
    | none => .bad) else .bad
  | _ => .bad
theorem repf_look {K : PySem.W.Frag} {H : Hp} {n : Str} {p : PV} : ∀ {fs : List (Str × PV)} {gs : List (Str × L2.V)}, RepF K H fs gs → fs.lookup n = some p → ∃ v, gs.lookup n = some v ∧ Rep K H p v
  | [], [], _, h => by cases h
  | [], _ :: _, z, _ => False.elim z
  | _ :: _, [], z, _ => False.elim z
  | (f, x) :: fs, (g, v) :: gs, ⟨e, r, rs⟩, h => by
    subst e
    cases hb : n == f with
    | true =>
      have h : (match n == f with
        | true => some x
        | false => fs.lookup n) = some p := h
      rw [hb] at h
      cases h
      refine ⟨v, ?_, r⟩
      show (match n == f with
        | true => some v
        | false => gs.lookup n) = some v
      rw [hb]
    | false =>
      have h : (match n == f with
        | true => some x
        | false => fs.lookup n) = some p := h
      rw [hb] at h
      obtain ⟨w, h1, h2⟩ := repf_look rs h
      refine ⟨w, ?_, h2⟩
      show (match n == f with
        | true => some v
        | false => gs.lookup n) = some w
      rw [hb]
      exact h1
section
variable {X : Cx} {W : WX} {V : List Nat} {A : Ad} {a C : Addr} {d : Option Addr} {oe : Obj} {pn : List (Addr × Obj)} {e : Expr} {fe : Env → Rs PV} {pos : Pos} {n : Str}
theorem pFldE_of {K : PySem.W.Frag} {σ : L2.St} {good : PV → Hp → Hp → Prop} {H0 H : Hp} : ∀ {q : PV}, Post K W σ good H0 H (pFldE a C d n q) → ∃ fs p, q = .exr a C d fs ∧ fs.lookup n = some p ∧ Post K W σ good H0 H (.ok p)
  | .exr b D d' fs, q => by
    have q : Post K W σ good H0 H (if b = a ∧ D = C ∧ d' = d then (match fs.lookup n with
      | some p => .ok p
      | none => .bad) else .bad) := q
    obtain ⟨⟨e1, e2, e3⟩, q3⟩ := post_if q
    clear q
    subst e1 e2 e3
    cases hl : fs.lookup n with
    | none => rw [hl] at q3; exact False.elim q3
    | some p => rw [hl] at q3; exact ⟨fs, p, rfl, hl, q3⟩
  | .non, q => False.elim q
  | .bl _, q => False.elim q
  | .int _, q => False.elim q
  | .str _, q => False.elim q
  | .tup _, q => False.elim q
  | .lst _, q => False.elim q
  | .ins _ _, q => False.elim q
  | .scr _, q => False.elim q
theorem x_fldE {i : Nat} (hE : Errs X.K X.mg A) (hz : Zc (.ref C) d oe) (hf : ∃ vs, oe.data = .fields vs) (he : EX (X.suite a ((a, oe) :: pn)) W V e (eV i)) (hb : attributeBase e n X.env (eval e X.env) = eval e X.env := by rfl) :
    EX (X.suite a ((a, oe) :: pn)) W V (.Attribute e n pos) (b1 (eV i) fun q => if A.fld C n = true then pFldE a C d n q else .bad) := fun Γ σ H0 H Q sh sm q => by
  by_cases hT : A.fld C n = true
  · obtain ⟨T1, T2⟩ := hE.fld C n hT
    refine PE.to (pe_xf T1 T2 hz hf pe_of hb) (he Γ σ H0 H _ sh sm (q.step.mono fun y H1 H2 g1 q1 v r => ?_))
    have q1 : Post X.K W σ (gE X.K Q) H1 H2 (if A.fld C n = true then pFldE a C d n y else .bad) := q1
    rw [if_pos hT] at q1
    obtain ⟨fs, p, rfl, hl, q2⟩ := pFldE_of q1
    obtain ⟨ev, hr⟩ := r
    rcases hr with ⟨h1, _⟩ | ⟨dx, gs, h1, h2, h3⟩
    · subst h1; cases hl
    · obtain ⟨w, k1, k2⟩ := repf_look h3 hl
      exact ⟨ev, rfl, dx, gs, w, h1, g1.c _ _ h2, k1, pV g1.c q2 k2⟩
  · have q : Post X.K W σ (gE X.K Q) H0 H ((lk Γ i).bind fun q => if A.fld C n = true then pFldE a C d n q else .bad) := q
    unfold lk at q
    split at q
    · have q : Post X.K W σ (gE X.K Q) H0 H (if A.fld C n = true then pFldE a C d n _ else .bad) := q
      rw [if_neg hT] at q
      exact False.elim q
    · exact False.elim q
end
end Lh.P
set_option Elab.async false
set_option linter.all false
set_option maxRecDepth 100000
set_option maxHeartbeats 4000000
/-! isinstance of a caught error that keeps fields of its own. -/
namespace Lh
open PySem PySem.Spec PyProof.Rows L2
section
open PySem.W PySem.Calls
variable {prog : Program} {w : World} {A : Around} {E : Value → Shared → Prop} {s : Shared} {K : Frag} {x D : Addr} {ox od : Obj}
theorem cls_of_err {Q : Option Value → Shared → Prop} (C : L2.ExcC K D) (X : K.In s.heap) (I : InstAt s.heap x ox D (some od)) (h : Q (some (.ref D)) { s with toks := s.toks + 1 }) : wpAny (model prog w) A (getAttr? (.ref x) "__class__") Q E s := by
  have hf : findObj K D (some od) "__class__" = some (.bind (.builtin "getset_descriptor.__get__") (.builtin "object.__class__")) := by
    obtain ⟨cd, hc, _⟩ := any_some C.hd
    unfold findObj
    simp [hc, C.ha, C.hn, C.ht]
  obtain ⟨hp, g, d, t, os⟩ := s
  have L0 := I.type (M := model prog w)
  have L1 := looks_findIn (M := model prog w) X C.hg
  have L2 := looks_findIn (M := model prog w) X C.hk
  have L3 := looks_find (M := model prog w) X I hf
  have sub : Looks (model prog w) hp (isInstance (.ref x) (.type "BaseException")) true := L0.andThen (looks_subIn X C.hs)
  have n1 : (Value.builtin "BaseException.__getattribute__" == Value.builtin "object.__getattribute__") = false := by decide +kernel
  have ho : handedOut (Value.ref D) = pure (Value.ref D) := handedOut_of (v := .ref D) rfl
  unfold getAttr? getAttrBy? getAttrBy getAttrByItsOwn hookBefore callGetattribute boundAndCalled
  repeat' first | refine wpAny_bind (wpAny_mkText ?_) | refine wpAny_bind (wpAny_attempt ?_) | refine wpAny_holding ?_ | refine wpAny_bind (L0.at ?_) | refine wpAny_bind (L1.at ?_) | refine L2.at ?_ | (rw [PySem.F.excAttr_ValueError.ga.bind]; refine wpAny_bind (wpAny_pure ?_)) | (simp only [n1, Bool.and_false, Bool.false_and, Bool.false_eq_true, if_false, onTheHeap, if_true]) | refine wpAny_bind ?_
  refine wpAny_run (codeAny_call_builtin PySem.F.excAttr_ValueError.ga.plain PySem.F.entry_bexc_ga ?_)
  refine @check_slot (model prog w) _ _ ⟨hp, g, d, t + 1, os⟩ "BaseException.__getattribute__" "BaseException" "__getattribute__" (.ref x) [.str "__class__" t] [] _ (by decide +kernel) (by decide +kernel) sub (PySem.F.args_bexc_ga _ _) ?_
  unfold Builtin.«object.__getattribute__»
  refine wpAny_bind (wpAny_of_eq (a := (Value.ref x, [Value.str "__class__" t])) (by first | rfl | (simp only [slotArgs]; rfl)) ?_)
  repeat' first | refine wpAny_bind (L0.at ?_) | refine wpAny_bind (L3.at ?_) | refine wpAny_bind (wpAny_pure ?_)
  refine wpAny_bind (wpAny_holding (wpAny_call (class_get (s := ⟨hp, g, d, t + 1, os⟩) (ox := ox) (od := some od) X I C.hm (wpAny_pure ?_))))
  show wpAny _ _ (pure (Value.ref D)) _ _ _
  refine wpAny_pure ?_
  show wpAny _ _ (handedOut (Value.ref D)) _ _ _
  rw [ho]
  exact wpAny_pure (wpAny_pure h)
theorem kitx_err (C : L2.ExcC K D) : KitX K (.ref x) (.ref D) (fun h => InstAt h x ox D (some od)) :=
  ⟨fun _ _ _ I => I.type, fun M h X _ => fun A Q E s' k q => mc_isType (s := { s' with heap := h }) X C.hd A Q E s' k q, (handS_kitx_exc (x := x) (ox := ox) C.hg C.hk C.hs C.hd C.ha C.hn C.ht C.hm).ne, fun X I h => cls_of_err C X I h⟩
end
/-- the heap's object of the error's fields -/
theorem inst_f {X : Cx} {pins : List (Addr × Obj)} {σ : L2.St} {H : Hp} {s : Shared} {a D dx : Addr} {oe : Obj} {pn : List (Addr × Obj)} {gs : List (Str × V)} (I : Inv (X.suite a ((a, oe) :: pn)) pins σ H s) (hz : Zc (.ref D) (some dx) oe) (hf : ∃ vs, oe.data = .fields vs) (hd : H dx = some (.xd gs)) : ∃ od, PySem.W.InstAt s.heap a oe D (some od) := by
  obtain ⟨mA, hns, _⟩ := (show ObjOk X.prog X.w H s.heap dx (.xd gs) from I.hok dx _ hd)
  obtain ⟨od, ho, _⟩ := lookIn_ns hns
  exact ⟨od, (I.pin (a, oe) (by simp [Cx.suite])).1, hz.1, hf.elim fun vs e => by unfold PySem.W.notCls; rw [e], by rw [show oe.dict = some dx from hz.2]; exact ho⟩
def rIsF (K : PySem.W.Frag) (D dx a : Addr) : List V → Hp → VK → Prop := fun xs H Q => ∃ (c : V) (cv : Value) (b : Bool) (gs : List (Str × V)), H dx = some (.xd gs) ∧ L2.ExcC K D ∧ xs = [.ref a, c] ∧ ClsV c cv ∧ PySem.W.kitOne K (.ref D) cv = some b ∧ Q (.bl b) H
theorem call_isF {X : Cx} {a D dx : Addr} {oe : Obj} {pn : List (Addr × Obj)} (hz : Zc (.ref D) (some dx) oe) (hf : ∃ vs, oe.data = .fields vs) : CallR (X.suite a ((a, oe) :: pn)) (.builtin "isinstance") (rIsF X.K D dx a) := fun pins s σ H xs us Q I r h => by
  obtain ⟨c, cv, b, gs, hd, C, hx, k, e, q⟩ := h
  subst hx
  obtain ⟨od, J⟩ := inst_f I hz hf hd
  have hu : us = [.ref a, cv] := by
    obtain ⟨u, v, e1, e2, e3⟩ := vals2 r
    rw [e1, show u = Value.ref a from e2, k.eq e3]
  rw [hu]
  exact PySem.W.kia_one (kitx_err C) I.kIn J e nofun fun t => ⟨.bl b, H, I.kept (t' := t) fun _ _ z => z, rfl, q⟩
def rIsFT (K : PySem.W.Frag) (D dx a : Addr) : List V → Hp → VK → Prop := fun xs H Q => ∃ (tp : Addr) (cs : List V) (ws : List Value) (b : Bool) (gs : List (Str × V)), H dx = some (.xd gs) ∧ L2.ExcC K D ∧ xs = [.ref a, .ref tp] ∧ H tp = some (.tup cs) ∧ Paired ClsV cs ws ∧ PySem.W.kitAny K (.ref D) ws = some b ∧ Q (.bl b) H
theorem call_isFT {X : Cx} {a D dx : Addr} {oe : Obj} {pn : List (Addr × Obj)} (hz : Zc (.ref D) (some dx) oe) (hf : ∃ vs, oe.data = .fields vs) : CallR (X.suite a ((a, oe) :: pn)) (.builtin "isinstance") (rIsFT X.K D dx a) := fun pins s σ H xs us Q I r h => by
  obtain ⟨tp, cs, ws, b, gs, hd, C, hx, hT, k, e, q⟩ := h
  subst hx
  obtain ⟨od, J⟩ := inst_f I hz hf hd
  have hu : us = [.ref a, .ref tp] := by
    obtain ⟨u, v, e1, e2, e3⟩ := vals2 r
    rw [e1, show u = Value.ref a from e2, show v = Value.ref tp from e3]
  rw [hu]
  obtain ⟨its, rv, ⟨o, hg, ho, n, hi⟩, _⟩ := I.tuple (SqT.of hT)
  have ht : s.heap.get? tp = some ⟨.type "tuple", o.dict, .seq ws.toArray n, o.slots⟩ := by rw [hg, ← ClsV.all k rv, ← ho, ← hi]
  exact PySem.W.kia_tup (kitx_err C) I.kIn J ht e nofun fun t => ⟨.bl b, H, I.kept (t' := t) fun _ _ z => z, rfl, q⟩
end Lh
set_option Elab.async false
set_option linter.all false
set_option maxRecDepth 100000
set_option maxHeartbeats 4000000
/-! isinstance of a caught error, with or without fields. -/
namespace Lh.P
open PySem PySem.Spec PyProof.Rows L2 _root_.SX
section
variable {X : Cx} {W : WX} {V : List Nat} {A : Ad} {a C dx : Addr} {d : Option Addr} {oe : Obj} {pn : List (Addr × Obj)} {e e2 : Expr} {es : List Expr} {p2 pos tpos : Pos} {k i : Nat} {y : Str} {ns : List Str}
/-- isinstance of an error that keeps fields at dx -/
def pIsF (A : Ad) (a C dx : Addr) (ns : List Str) : PV → Rs PV
  | .exr b D (some dy) (_ :: _) => if b = a ∧ D = C ∧ dy = dx then (match A.ins C ns with
    | some k => .ok (.bl k)
    | none => .bad) else .bad
  | _ => .bad
theorem pIsF_of {K : PySem.W.Frag} {W : WX} {σ : L2.St} {good : PV → Hp → Hp → Prop} {H0 H : Hp} {a C dx : Addr} {x : PV} (q : Post K W σ good H0 H (pIsF A a C dx ns x)) : ∃ f fs k, x = .exr a C (some dx) (f :: fs) ∧ A.ins C ns = some k ∧ Post K W σ good H0 H (.ok (.bl k)) := by
  unfold pIsF at q
  split at q
  · rename_i b D dy f fs
    obtain ⟨⟨e1, e2, e3⟩, q3⟩ := post_if q
    subst e1 e2 e3
    cases hi : A.ins D ns with
    | none => rw [hi] at q3; exact False.elim q3
    | some k => rw [hi] at q3; exact ⟨f, fs, k, rfl, rfl, q3⟩
  · exact False.elim q
theorem exr_at {K : PySem.W.Frag} {H : Hp} {a C dx : Addr} {f : Str × PV} {fs : List (Str × PV)} {v : L2.V} (r : Rep K H (.exr a C (some dx) (f :: fs)) v) : v = .ref a ∧ ∃ gs, H dx = some (.xd gs) := by
  obtain ⟨e, h⟩ := r
  refine ⟨e, ?_⟩
  rcases h with ⟨z, _⟩ | ⟨dy, gs, e2, h, _⟩
  · cases z
  · cases e2; exact ⟨gs, h⟩
/-- the same, d the place of its fields -/
def pIsD (A : Ad) (a C : Addr) (d : Option Addr) (ns : List Str) : PV → Rs PV := fun p => match d with
  | none => pIsE A a C ns p
  | some dx => pIsF A a C dx ns p
theorem x_isF (hE : Errs X.K X.mg A) (hz : Zc (.ref C) (some dx) oe) (hf : ∃ vs, oe.data = .fields vs) (hm : X.mg "isinstance" = none) (he : EX (X.suite a ((a, oe) :: pn)) W V e (eV i)) (hv : PE (X.suite a ((a, oe) :: pn)) e2 (tC (clsV A y))) (hg : Gl (X.suite a ((a, oe) :: pn)) "isinstance" := by rfl)
    (hst : starEach [e, e2] X.env = (false, eval e X.env) :: starEach [e2] X.env := by rfl) (hst2 : starEach [e2] X.env = (false, eval e2 X.env) :: starEach [] X.env := by rfl) (hpl : (backTo pos (starEach [e2] X.env)).any (·.1) = false := by rfl) : EX (X.suite a ((a, oe) :: pn)) W V (.Call (.Name "isinstance" p2) [e, e2] [] pos) (b1 (eV i) (pIsF A a C dx [y])) := fun Γ σ H0 H Q sh sm q => by
  refine PE.to (pe_callB (call_isF hz hf) hg hm (by decide +kernel) (pa_cons pe_of (pa_cons hv pa_nil hst2) hst) (he := hst) (hpl := hpl)) (he Γ σ H0 H _ sh sm (q.step.mono fun x H1 H2 g1 q1 v r => ?_))
  obtain ⟨f, fs, k, ex, hi, q2⟩ := pIsF_of (A := A) (a := a) (C := C) (dx := dx) (ns := [y]) q1
  subst ex
  obtain ⟨hv, gs, hd⟩ := exr_at r
  subst hv
  obtain ⟨h1, h2⟩ := hE.ins C [y] k hi
  exact ⟨_, _, k, gs, g1.c _ _ hd, h1, rfl, cls_cv, kit_one h2, pV g1.c q2 rfl⟩
theorem x_isFs (hE : Errs X.K X.mg A) (hz : Zc (.ref C) (some dx) oe) (hf : ∃ vs, oe.data = .fields vs) (hm : X.mg "isinstance" = none) (he : EX (X.suite a ((a, oe) :: pn)) W V e (eV i)) (hv : PA (X.suite a ((a, oe) :: pn)) es (tCls A ns)) (hl : ns.length ≤ 1000 := by decide) (hg : Gl (X.suite a ((a, oe) :: pn)) "isinstance" := by rfl)
    (hst : starEach [e, .Tuple es k tpos] X.env = (false, eval e X.env) :: starEach [.Tuple es k tpos] X.env := by rfl) (hst2 : starEach [.Tuple es k tpos] X.env = (false, eval (.Tuple es k tpos) X.env) :: starEach [] X.env := by rfl) (hpl : (backTo pos (starEach [.Tuple es k tpos] X.env)).any (·.1) = false := by rfl) : EX (X.suite a ((a, oe) :: pn)) W V (.Call (.Name "isinstance" p2) [e, .Tuple es k tpos] [] pos) (b1 (eV i) (pIsF A a C dx ns)) := fun Γ σ H0 H Q sh sm q => by
  refine PE.to (pe_callB (call_isFT hz hf) hg hm (by decide +kernel) (pa_cons pe_of (pa_cons (pe_tup hv) pa_nil hst2) hst) (he := hst) (hpl := hpl)) (he Γ σ H0 H _ sh sm (q.step.mono fun x H1 H2 g1 q1 v r => ?_))
  obtain ⟨f, fs, k, ex, hi, q2⟩ := pIsF_of (A := A) (a := a) (C := C) (dx := dx) (ns := ns) q1
  subst ex
  obtain ⟨hv, gs, hd⟩ := exr_at r
  subst hv
  obtain ⟨h1, h2⟩ := hE.ins C ns k hi
  refine ⟨lim (by rw [List.length_map]; omega), fun p hp => ?_⟩
  have hne : dx ≠ p := fun z => by
    have := g1.c _ _ hd
    rw [z, hp] at this
    cases this
  exact ⟨p, _, _, k, gs, by rw [upd_ne hne]; exact g1.c _ _ hd, h1, rfl, upd_same, cls_all ns, h2, q2 H1 _ (Gr.newO g1.c hp) _ rfl⟩
theorem x_isD (hE : Errs X.K X.mg A) (hz : Zc (.ref C) d oe) (hf : ∃ vs, oe.data = .fields vs) (hm : X.mg "isinstance" = none) (he : EX (X.suite a ((a, oe) :: pn)) W V e (eV i)) (hv : PE (X.suite a ((a, oe) :: pn)) e2 (tC (clsV A y))) (hg : Gl (X.suite a ((a, oe) :: pn)) "isinstance" := by rfl)
    (hst : starEach [e, e2] X.env = (false, eval e X.env) :: starEach [e2] X.env := by rfl) (hst2 : starEach [e2] X.env = (false, eval e2 X.env) :: starEach [] X.env := by rfl) (hpl : (backTo pos (starEach [e2] X.env)).any (·.1) = false := by rfl) : EX (X.suite a ((a, oe) :: pn)) W V (.Call (.Name "isinstance" p2) [e, e2] [] pos) (b1 (eV i) (pIsD A a C d [y])) := by
  cases d with
  | none => exact x_isE hE hz hf hm he hv hg hst hst2 hpl
  | some _ => exact x_isF hE hz hf hm he hv hg hst hst2 hpl
theorem x_isDs (hE : Errs X.K X.mg A) (hz : Zc (.ref C) d oe) (hf : ∃ vs, oe.data = .fields vs) (hm : X.mg "isinstance" = none) (he : EX (X.suite a ((a, oe) :: pn)) W V e (eV i)) (hv : PA (X.suite a ((a, oe) :: pn)) es (tCls A ns)) (hl : ns.length ≤ 1000 := by decide) (hg : Gl (X.suite a ((a, oe) :: pn)) "isinstance" := by rfl)
    (hst : starEach [e, .Tuple es k tpos] X.env = (false, eval e X.env) :: starEach [.Tuple es k tpos] X.env := by rfl) (hst2 : starEach [.Tuple es k tpos] X.env = (false, eval (.Tuple es k tpos) X.env) :: starEach [] X.env := by rfl) (hpl : (backTo pos (starEach [.Tuple es k tpos] X.env)).any (·.1) = false := by rfl) : EX (X.suite a ((a, oe) :: pn)) W V (.Call (.Name "isinstance" p2) [e, .Tuple es k tpos] [] pos) (b1 (eV i) (pIsD A a C d ns)) := by
  cases d with
  | none => exact x_isEs hE hz hf hm he hv hl hg hst hst2 hpl
  | some _ => exact x_isFs hE hz hf hm he hv hl hg hst hst2 hpl
end
end Lh.P
set_option Elab.async false
set_option linter.all false
set_option maxRecDepth 100000
set_option maxHeartbeats 4000000
/-! text[::-1]. -/
namespace Lh.P
open PySem PySem.Spec PyProof.Rows L2 _root_.SX
theorem rev_pick (z : Str) : (Builtin.Str.strSliceIndices none none (-1) z.length).filterMap (z.cps[·]?) = z.cps.toList.reverse := by
  have e : Builtin.Str.strSliceIndices none none (-1) z.length = sliceRange ((z.length : Int) - 1) (-1) (-1) := rfl
  rw [e, PySem.W.krv_sliceRange, PySem.W.krv_range, List.filterMap_reverse]
  have := PySem.W.krv_all z.cps
  rw [← this]
  rfl
def tRevS (te : TE) : TE := fun σ H Q => te σ H fun x H1 => ∃ z : Str, x = .str z ∧ z.length ≤ sizeLine ∧ Q (.str ⟨z.cps.toList.reverse.toArray⟩) H1
section
variable {X : Cx}
theorem pe_revS {e : Expr} {te : TE} {k : Nat} {p1 p2 p3 pos : Pos} (he : PE X e te) : PE X (.Subscript e (.Slice none none (some (.UnaryOp .USub (.Constant (.int 1) k p1) p2)) p3) pos) (tRevS te) := by
  refine ⟨fun pins s σ H Q I h => Subscript_ (thn (he.run pins s σ H _ I h) fun v s1 hv => ?_)⟩
  obtain ⟨x, H1, I1, r1, z, rfl, hz, q⟩ := hv
  obtain ⟨t, rfl⟩ := r1
  have hm : PO X (some (.UnaryOp .USub (.Constant (.int 1) k p1) p2)) (tPart (tUn (rU fun i => .int (-i)) (tC (.int 1)))) := po_some (pe_un un_neg pe_int)
  refine wpAny_Slice (thn (po_none.run pins s1 σ H1 (fun o H2 => o = none ∧ H2 = H1) I1 ⟨rfl, rfl⟩) fun vl s2 hl => ?_)
  obtain ⟨l, H2, I2, pl, rfl, rfl⟩ := hl
  refine thn (po_none.run pins s2 σ H2 (fun o H3 => o = none ∧ H3 = H2) I2 ⟨rfl, rfl⟩) fun vu s3 hu => ?_
  obtain ⟨u, H3, I3, pu, rfl, rfl⟩ := hu
  refine thn (hm.run pins s3 σ H3 (fun o H4 => o = some (-1) ∧ H4 = H3) I3 ⟨1, rfl, -1, rfl, rfl, rfl⟩) fun vs s4 hs => ?_
  obtain ⟨o, H4, I4, ps, rfl, rfl⟩ := hs
  have I5 : Inv X pins σ H4 { s4 with heap := s4.heap.push { cls := .type "slice", data := .fields #[vl, vu, vs] } } := I4.kept (t' := s4.toks) fun b ob q => Heap.get?_push_of_some _ q
  obtain ⟨os, hos, hcs, hds⟩ := Heap.IsSliceOf.new s4.heap vl vu vs
  obtain ⟨l1, rfl, e1⟩ := IsPart.raw pl
  obtain ⟨l2, rfl, e2⟩ := IsPart.raw pu
  obtain ⟨l3, rfl, e3⟩ := IsPart.raw ps
  show wpAny (model X.prog X.w) X.A (subscriptTail e (.Slice none none (some (.UnaryOp .USub (.Constant (.int 1) k p1) p2)) p3) (.str z t) (.ref s4.heap.objs.size)) (EP X pins σ Q) X.xe _
  refine tail_any (ops := [.str z t, .ref s4.heap.objs.size]) (typeIs_str _ _ _) PySem.F.slot_str_getitem.lookup ?_ (by with_unfolding_all rfl)
  refine wpAny_getItem_str_slice (l := l1) (u := l2) (st := l3) ⟨os, hos, hcs, hds⟩ (by rw [e3]; rfl) ?_
  unfold sliceMade slicePicked
  rw [e1, e2, e3]
  show Made.post (if ((-1 : Int) == 1 && _) = true then _ else Made.str ⟨((Builtin.Str.strSliceIndices none none (-1) z.length).filterMap (z.cps[·]?)).toArray⟩) _ _
  rw [if_neg (by simp), rev_pick]
  refine ⟨?_, .str _, H4, I5.tok _, ⟨_, rfl⟩, q⟩
  show z.cps.toList.reverse.toArray.size ≤ sizeLine
  rw [List.size_toArray, List.length_reverse, Array.length_toList]
  exact hz
end
theorem S_rev (s : List Nat) : (⟨(S s).cps.toList.reverse.toArray⟩ : Str) = S s.reverse := by
  unfold S
  simp
/-- xs[::-1], as a value -/
def pRev : PV → Rs PV
  | .str s => if s.length ≤ 100000 then .ok (.str s.reverse) else .bad
  | .lst xs => .ok (.lst xs.reverse)
  | _ => .bad
section
variable {X : Cx} {W : WX} {V : List Nat} {e : Expr} {pos : Pos}
theorem pe_or {e : Expr} {t1 t2 : TE} (h1 : PE X e t1) (h2 : PE X e t2) : PE X e (fun σ H Q => t1 σ H Q ∨ t2 σ H Q) := ⟨fun pins s σ H Q I h => h.elim (fun h => h1.run pins s σ H Q I h) fun h => h2.run pins s σ H Q I h⟩
theorem x_rev {f : Env → Rs PV} {k : Nat} {q1 q2 q3 : Pos} (he : EX X W V e f) : EX X W V (.Subscript e (.Slice none none (some (.UnaryOp .USub (.Constant (.int 1) k q1) q2)) q3) pos) (b1 f pRev) := fun Γ σ H0 H Q sh sm q => by
  refine PE.to (pe_or (pe_revS pe_of) (pe_revL pe_of)) ?_
  have q : Post X.K W σ (gE X.K Q) H0 H ((f Γ).bind pRev) := q
  cases hf : f Γ with
  | bad => rw [hf] at q; exact False.elim q
  | ex C fs =>
    refine .inl (he Γ σ H0 H _ sh sm ?_)
    rw [hf] at q ⊢
    exact q
  | ok p =>
    rw [hf] at q
    have q : Post X.K W σ (gE X.K Q) H0 H (pRev p) := q
    cases p with
    | str s =>
      obtain ⟨hl, q⟩ := post_if q
      refine .inl (he Γ σ H0 H _ sh sm ?_)
      rw [hf]
      intro H0' H' g v r
      refine ⟨S s, r, by rw [S_len]; exact lim (by omega), ?_⟩
      rw [S_rev]
      exact q _ _ g _ rfl
    | lst xs =>
      refine .inr (he Γ σ H0 H _ sh sm ?_)
      rw [hf]
      intro H0' H' g v r
      obtain ⟨a, vs, rfl, ha, rs⟩ := r
      refine ⟨a, vs, rfl, SqL.of (g.c _ _ ha), fun p hp => ?_⟩
      have gn := Gr.new (o := .lst vs.reverse) g.c hp
      exact q _ _ (g.trans gn) _ ⟨p, _, rfl, upd_same, Reps.mono gn.a _ _ rs.rev⟩
    | _ => exact False.elim q
end
end Lh.P
set_option Elab.async false
set_option linter.all false
set_option maxRecDepth 100000
set_option maxHeartbeats 4000000
/-! Dicts; truth of rows; functions of a module. -/
namespace Lh.P
open PySem PySem.Spec PyProof.Rows L2 _root_.SX
def keyP : PV → Option L2.Key
  | .int i => some (.inl i)
  | .str s => some (.inr (S s))
  | _ => none
def valP (ks : List (L2.Key × PV)) (k : L2.Key) : Option PV := (ks.find? fun q => decide (q.1 = k)).map (·.2)
def putP' (ks : List (L2.Key × PV)) (k : L2.Key) (x : PV) : List (L2.Key × PV) :=
  if (ks.any fun q => decide (q.1 = k)) = true then ks.map (fun q => if q.1 = k then (q.1, x) else q) else ks ++ [(k, x)]
section
variable {K : PySem.W.Frag} {H : Hp}
theorem keyP_rep {p : PV} {k : L2.Key} {v : L2.V} (h : keyP p = some k) (r : Rep K H p v) : v = kV k := by
  cases p with
  | int i => cases h; exact r
  | str s => cases h; exact r
  | _ => cases h
theorem RepK.len : ∀ {ks : List (L2.Key × PV)} {ws : List (L2.Key × L2.V)}, RepK K H ks ws → ws.length = ks.length
  | [], [], _ => rfl
  | [], _ :: _, z => False.elim z
  | _ :: _, [], z => False.elim z
  | (_, _) :: _, (_, _) :: _, ⟨_, _, h⟩ => by rw [List.length_cons, List.length_cons, RepK.len h]
theorem RepK.val {k : L2.Key} : ∀ {ks : List (L2.Key × PV)} {ws : List (L2.Key × L2.V)}, RepK K H ks ws → (valP ks k = none ∧ valV ws k = none) ∨ ∃ x v, valP ks k = some x ∧ valV ws k = some v ∧ Rep K H x v
  | [], [], _ => .inl ⟨rfl, rfl⟩
  | [], _ :: _, z => False.elim z
  | _ :: _, [], z => False.elim z
  | (g, x) :: ks, (g', v) :: ws, ⟨e, r, h⟩ => by
    subst e
    by_cases z : g = k
    · refine .inr ⟨x, v, ?_, ?_, r⟩
      · unfold valP; rw [List.find?_cons_of_pos (by simpa using z)]; rfl
      · unfold valV; rw [List.find?_cons_of_pos (by simpa using z)]; rfl
    · have e1 : valP ((g, x) :: ks) k = valP ks k := by unfold valP; rw [List.find?_cons_of_neg (by simpa using z)]
      have e2 : valV ((g, v) :: ws) k = valV ws k := by unfold valV; rw [List.find?_cons_of_neg (by simpa using z)]
      rw [e1, e2]
      exact RepK.val h
theorem RepK.any {k : L2.Key} : ∀ {ks : List (L2.Key × PV)} {ws : List (L2.Key × L2.V)}, RepK K H ks ws → (ks.any fun q => decide (q.1 = k)) = ws.any fun q => decide (q.1 = k)
  | [], [], _ => rfl
  | [], _ :: _, z => False.elim z
  | _ :: _, [], z => False.elim z
  | (g, x) :: ks, (g', v) :: ws, ⟨e, r, h⟩ => by
    subst e
    rw [List.any_cons, List.any_cons, RepK.any h]
theorem RepK.app : ∀ {ks ls : List (L2.Key × PV)} {ws us : List (L2.Key × L2.V)}, RepK K H ks ws → RepK K H ls us → RepK K H (ks ++ ls) (ws ++ us)
  | [], _, [], _, _, h => h
  | [], _, _ :: _, _, z, _ => False.elim z
  | _ :: _, _, [], _, z, _ => False.elim z
  | (_, _) :: _, _, (_, _) :: _, _, ⟨e, r, h⟩, h2 => ⟨e, r, RepK.app h h2⟩
theorem RepK.rep {k : L2.Key} {x : PV} {v : L2.V} (r : Rep K H x v) : ∀ {ks : List (L2.Key × PV)} {ws : List (L2.Key × L2.V)}, RepK K H ks ws → RepK K H (ks.map fun q => if q.1 = k then (q.1, x) else q) (ws.map fun q => if q.1 = k then (q.1, v) else q)
  | [], [], _ => trivial
  | [], _ :: _, z => False.elim z
  | _ :: _, [], z => False.elim z
  | (g, y) :: ks, (g', w) :: ws, ⟨e, r1, h1⟩ => by
    subst e
    rw [List.map_cons, List.map_cons]
    by_cases z : g = k
    · rw [if_pos z, if_pos z]; exact ⟨rfl, r, RepK.rep r h1⟩
    · rw [if_neg z, if_neg z]; exact ⟨rfl, r1, RepK.rep r h1⟩
theorem RepK.put {k : L2.Key} {x : PV} {v : L2.V} (r : Rep K H x v) {ks : List (L2.Key × PV)} {ws : List (L2.Key × L2.V)} (h : RepK K H ks ws) : RepK K H (putP' ks k x) (putK ws k v) := by
  unfold putP' putK
  rw [RepK.any h]
  split
  · exact RepK.rep r h
  · exact RepK.app h ⟨rfl, r, trivial⟩
end
section
variable {X : Cx} {W : WX} {M : Md} {V O O' O1 T : List Nat} {e a b c : Expr} {es : List Expr} {st : Stmt} {pos p p2 : Pos} {x : Str}
/-! ### {}, {k: v} -/
theorem o_dnew : OX X W V (.Dict [] [] pos) (fun _ => .ok (.dic [])) := fun Γ σ H0 H Q sh sm q => by
  refine PE.to pe_dnewK fun d hd => ?_
  exact (q _ _ (Gr.newO (o := .dK []) sm hd)).2 d hd (none_back sm hd) ⟨[], upd_same, trivial⟩
theorem o_dic1 {v w : L2.V} {k : L2.Key} {y : PV} (ha : PE X a (tC v)) (hb : PE X b (tC w)) (hv : v = kV k) (hy : ∀ H0, Rep X.K H0 y w) : OX X W V (.Dict [some a] [b] pos) (fun _ => .ok (.dic [(k, y)])) := fun Γ σ H0 H Q sh sm q => by
  refine PE.to (pe_disp (pps_cons ha hb pps_nil) rfl rfl (by simp) (by simp)) fun d hd => ?_
  refine ⟨upd_same, [(k, w)], by rw [hv]; rfl, by simp, ?_⟩
  have e : upd (upd H d (.dK [])) d (.dK (mergeK [] [(k, w)])) = upd H d (.dK [(k, w)]) := by
    funext z
    by_cases h : z = d
    · subst h; rw [upd_same, upd_same]; rfl
    · rw [upd_ne h, upd_ne h, upd_ne h]
  rw [e]
  exact (q _ _ (Gr.newO (o := .dK [(k, w)]) sm hd)).2 d hd (none_back sm hd) ⟨_, upd_same, rfl, hy _, trivial⟩
/-! ### d[k], k in d -/
def pDget (x y : PV) : Rs PV := match x, keyP y with
  | .dic ks, some k => ofO (valP ks k)
  | _, _ => .bad
theorem dget_rep {H0 H : Hp} {x y : PV} {v w : L2.V} {ks : List (L2.Key × PV)} {k : L2.Key} (hx : x = .dic ks) (hk : keyP y = some k) (r1 : Rep X.K H0 x v) (r2 : Rep X.K H0 y w) (sm : Same H0 H) :
    ∃ a o, v = .ref a ∧ DGet H a w o ∧ ((valP ks k = none ∧ o = none) ∨ ∃ z u, valP ks k = some z ∧ o = some u ∧ Rep X.K H0 z u) := by
  subst hx
  obtain ⟨a, ws, rfl, h, rk⟩ := r1
  refine ⟨a, _, rfl, by rw [keyP_rep hk r2]; exact DGet.k (sm _ _ h), ?_⟩
  exact rk.val
theorem x_dget (hu : X.A.units + 1 < cLine) {fa fb : Env → Rs PV} (ha : EX X W V a fa) (hb : EX X W V b fb) (hs : NoSl b := by exact fun _ _ => rfl) : EX X W V (.Subscript a b pos) (b2 fa fb pDget) := fun Γ σ H0 H Q sh sm q => by
  refine PE.to (pe_dget hu pe_of pe_of hs) (two ha hb sh sm q fun x y v w H1 H2 g1 r1 r2 q1 => ?_)
  have q1 : Post X.K W σ (gE X.K Q) H1 H2 (pDget x y) := q1
  unfold pDget at q1
  cases x with
  | dic ks =>
    cases hk : keyP y with
    | none => rw [hk] at q1; exact False.elim q1
    | some k =>
      rw [hk] at q1
      dsimp only at q1
      obtain ⟨d, o, rfl, h1, h2⟩ := dget_rep rfl hk r1 r2 g1.c
      rcases h2 with ⟨h2, _⟩ | ⟨z, u, h2, rfl, h3⟩
      · exact False.elim (by rw [h2] at q1; exact q1)
      · rw [h2] at q1
        exact ⟨d, u, rfl, h1, pV g1.c q1 h3⟩
  | _ => exact False.elim q1
def pDin (x y : PV) : Rs PV := match y, keyP x with
  | .dic ks, some k => .ok (.bl (valP ks k).isSome)
  | _, _ => .bad
def pDnotin (x y : PV) : Rs PV := match y, keyP x with
  | .dic ks, some k => .ok (.bl (!(valP ks k).isSome))
  | _, _ => .bad
theorem din_core {H0 H : Hp} {x y : PV} {v w : L2.V} {ks : List (L2.Key × PV)} {k : L2.Key} (hy : y = .dic ks) (hk : keyP x = some k) (r1 : Rep X.K H0 x v) (r2 : Rep X.K H0 y w) (sm : Same H0 H) : ∃ a o, w = .ref a ∧ DGet H a v o ∧ o.isSome = (valP ks k).isSome := by
  obtain ⟨d, o, h0, h1, h2⟩ := dget_rep (X := X) hy hk r2 r1 sm
  refine ⟨d, o, h0, h1, ?_⟩
  rcases h2 with ⟨h2, rfl⟩ | ⟨z, u, h2, rfl, _⟩
  · rw [h2]; rfl
  · rw [h2]; rfl
theorem x_din (hu : X.A.units + 1 < cLine) {fa fb : Env → Rs PV} (ha : EX X W V a fa) (hb : EX X W V b fb) (hm : behindInMarks .In b = false := by rfl) : EX X W V (.Compare a [.In] [b] pos) (b2 fa fb pDin) := fun Γ σ H0 H Q sh sm q => by
  refine PE.to (pe_cmp (pc_din hu pe_of pe_of) hm) (two ha hb sh sm q fun x y v w H1 H2 g1 r1 r2 q1 => ?_)
  have q1 : Post X.K W σ (gE X.K Q) H1 H2 (pDin x y) := q1
  unfold pDin at q1
  cases y with
  | dic ks =>
    cases hk : keyP x with
    | none => rw [hk] at q1; exact False.elim q1
    | some k =>
      rw [hk] at q1
      dsimp only at q1
      obtain ⟨d, o, h0, h1, h2⟩ := din_core (X := X) rfl hk r1 r2 g1.c
      exact ⟨d, o, h0, h1, by rw [h2]; exact pV g1.c q1 rfl⟩
  | _ => exact False.elim q1
theorem x_dnotin (hu : X.A.units + 1 < cLine) {fa fb : Env → Rs PV} (ha : EX X W V a fa) (hb : EX X W V b fb) (hm : behindInMarks .NotIn b = false := by rfl) : EX X W V (.Compare a [.NotIn] [b] pos) (b2 fa fb pDnotin) := fun Γ σ H0 H Q sh sm q => by
  refine PE.to (pe_cmp (pc_dnotin hu pe_of pe_of) hm) (two ha hb sh sm q fun x y v w H1 H2 g1 r1 r2 q1 => ?_)
  have q1 : Post X.K W σ (gE X.K Q) H1 H2 (pDnotin x y) := q1
  unfold pDnotin at q1
  cases y with
  | dic ks =>
    cases hk : keyP x with
    | none => rw [hk] at q1; exact False.elim q1
    | some k =>
      rw [hk] at q1
      dsimp only at q1
      obtain ⟨d, o, h0, h1, h2⟩ := din_core (X := X) rfl hk r1 r2 g1.c
      exact ⟨d, o, h0, h1, by rw [h2]; exact pV g1.c q1 rfl⟩
  | _ => exact False.elim q1
theorem isB_bT {σ : L2.St} {H0 H : Hp} {Q : Bool → Hp → Prop} (sm : Same H0 H) {r : Rs PV} (q : Post X.K W σ (gT Q) H0 H (r.bind isB)) : Post X.K W σ (gE X.K fun v H' => ∃ d, v = .bl d ∧ Q d H') H0 H r :=
  q.step.mono fun z H1 H2 g q1 v r => isB_post g.c q1 r
theorem t_din (hu : X.A.units + 1 < cLine) {fa fb : Env → Rs PV} (ha : EX X W V a fa) (hb : EX X W V b fb) (hm : behindInMarks .In b = false := by rfl) : TX X W V (.Compare a [.In] [b] pos) (bT (b2 fa fb pDin)) := fun Γ σ H0 H Q sh sm q => by
  refine PT.to (pt_cmp (pc_din hu pe_of pe_of) hm) ?_
  refine two ha hb sh sm (isB_bT sm q) fun x y v w H1 H2 g1 r1 r2 q1 => ?_
  have q1 : Post X.K W σ (gE X.K fun v H' => ∃ d, v = .bl d ∧ Q d H') H1 H2 (pDin x y) := q1
  unfold pDin at q1
  cases y with
  | dic ks =>
    cases hk : keyP x with
    | none => rw [hk] at q1; exact False.elim q1
    | some k =>
      rw [hk] at q1
      dsimp only at q1
      obtain ⟨d, o, h0, h1, h2⟩ := din_core (X := X) rfl hk r1 r2 g1.c
      exact ⟨d, o, h0, h1, by rw [h2]; exact pV g1.c q1 rfl⟩
  | _ => exact False.elim q1
theorem t_dnotin (hu : X.A.units + 1 < cLine) {fa fb : Env → Rs PV} (ha : EX X W V a fa) (hb : EX X W V b fb) (hm : behindInMarks .NotIn b = false := by rfl) : TX X W V (.Compare a [.NotIn] [b] pos) (bT (b2 fa fb pDnotin)) := fun Γ σ H0 H Q sh sm q => by
  refine PT.to (pt_cmp (pc_dnotin hu pe_of pe_of) hm) ?_
  refine two ha hb sh sm (isB_bT sm q) fun x y v w H1 H2 g1 r1 r2 q1 => ?_
  have q1 : Post X.K W σ (gE X.K fun v H' => ∃ d, v = .bl d ∧ Q d H') H1 H2 (pDnotin x y) := q1
  unfold pDnotin at q1
  cases y with
  | dic ks =>
    cases hk : keyP x with
    | none => rw [hk] at q1; exact False.elim q1
    | some k =>
      rw [hk] at q1
      dsimp only at q1
      obtain ⟨d, o, h0, h1, h2⟩ := din_core (X := X) rfl hk r1 r2 g1.c
      exact ⟨d, o, h0, h1, by rw [h2]; exact pV g1.c q1 rfl⟩
  | _ => exact False.elim q1
/-! ### truth -/
def truP : PV → Rs Bool
  | .non => .ok false
  | .bl b => .ok b
  | .int i => .ok (i != 0)
  | .lst xs => .ok (!xs.isEmpty)
  | .tup xs => .ok (!xs.isEmpty)
  | .dic ks => .ok (!ks.isEmpty)
  | _ => .bad
def bTru (f : Env → Rs PV) : Env → Rs Bool := fun Γ => (f Γ).bind truP
theorem t_tru {f : Env → Rs PV} (h : EX X W V e f) (he : ∀ whole, isTrue e X.env whole = (do let v ← whole; standAt e.pos; holding [v] (truthy v)) := by intro _; rfl) : TX X W V e (bTru f) := fun Γ σ H0 H Q sh sm q => by
  refine PT.to (pt_truth pe_of he) (h Γ σ H0 H _ sh sm (q.step.mono fun x H1 H2 g q1 v r => ?_))
  have emp : ∀ {α β : Type} {xs : List α} {ys : List β}, ys.length = xs.length → (!ys.isEmpty) = !xs.isEmpty := fun {α β xs ys} h => by
    cases xs <;> cases ys <;> first | rfl | cases h
  cases x with
  | non => exact ⟨false, by rw [show v = .non from r]; rfl, pT g.c q1⟩
  | bl b => exact ⟨b, by rw [show v = .bl b from r]; rfl, pT g.c q1⟩
  | int i => exact ⟨_, by rw [show v = .int i from r]; rfl, pT g.c q1⟩
  | lst xs =>
    obtain ⟨a, vs, rfl, h, rs⟩ := r
    refine ⟨_, .inl ⟨vs, SqL.of (g.c _ _ h), rfl⟩, ?_⟩
    rw [emp rs.len]; exact pT g.c q1
  | tup xs =>
    obtain ⟨a, vs, rfl, h, rs⟩ := r
    refine ⟨_, .inr (.inl ⟨vs, SqT.of (g.c _ _ h), rfl⟩), ?_⟩
    rw [emp rs.len]; exact pT g.c q1
  | dic ks =>
    obtain ⟨a, ws, rfl, h, rs⟩ := r
    refine ⟨_, .inr (.inr ⟨ws, g.c _ _ h, rfl⟩), ?_⟩
    rw [emp rs.len]; exact pT g.c q1
  | _ => exact False.elim q1
/-! ### f(e, ..), f a module's name for a built-in function -/
theorem x_callG {id : String} {g : List PV → Rs PV} {fa : Env → Rs (List PV)} (hc : CallP X (.builtin id) g) (hm : X.mg x = some (.builtin id)) (ha : AX X W V (e :: es) fa) (hg : Gl X x := by rfl) (hdb : (x == ("__debug__" : Str)) = false := by decide)
    (he : starEach (e :: es) X.env = (false, eval e X.env) :: starEach es X.env := by rfl) (hpl : (backTo pos (starEach es X.env)).any (·.1) = false := by rfl) : EX X W V (.Call (.Name x p) (e :: es) [] pos) (bC fa g) := fun Γ σ H0 H Q sh sm q => by
  obtain ⟨r, hr, hp⟩ := hc
  exact PE.to (pe_callBfun hr hg hm pa_of hdb he hpl) (ha Γ σ H0 H _ sh sm (q.step.mono fun ps H1 H2 g1 q1 vs rs => hp W σ ps vs H1 H2 Q rs g1.c q1))
def pGcd : List PV → Rs PV
  | [.int a, .int b] => .ok (.int ((Nat.gcd a.natAbs b.natAbs : Nat) : Int))
  | _ => .bad
theorem c_gcd : CallP X (.builtin "math.gcd") pGcd := ⟨_, cr_gcd, fun W σ ps vs H0 H Q rs sm q => by
  match ps, q with
  | [.int a, .int b], q =>
    obtain ⟨v, w, rfl, r1, r2⟩ := reps2 rs
    exact ⟨a, b, by rw [show v = .int a from r1, show w = .int b from r2], pV sm q rfl⟩⟩
/-! ### d[k] = v -/
def dDput (V O : List Nat) (i : Nat) (fv fk : Env → Rs PV) : Env → Out := fun Γ => match Γ[i]? with
  | some (some (.dic _)) => outE ((fv Γ).bind fun x => (fk Γ).bind fun y => .ok (x, y)) Γ fun xy => match Γ[i]?, keyP xy.2 with
    | some (some (.dic ks)), some k => if ks.length < 16000000 ∧ sep V O Γ (away xy.1) = true then .next (Γ.set i (some (.dic (putP' ks k xy.1)))) else .bad
    | _, _ => .bad
  | _ => .bad
theorem s_dput {i : Nat} {fv fk : Env → Rs PV} (ps : ∀ te ti, PE X e te → PE X a ti → PS X st (sDPut (tVar i) ti te)) (hv : EX X W V e fv) (ha : EX X W V a fk) (hi : i ∈ O) (ok : OkO M O) : SX X W M O O st (dDput V O i fv fk) := fun Z Γ σ H0 H D io E p => by
  refine PS.to (ps _ _ pe_of pe_of) ?_
  have p : PostS X.K W Z M O D (match Γ[i]? with
    | some (some (.dic _)) => outE ((fv Γ).bind fun x => (fk Γ).bind fun y => .ok (x, y)) Γ fun xy => match Γ[i]?, keyP xy.2 with
      | some (some (.dic ks)), some k => if ks.length < 16000000 ∧ sep V O Γ (away xy.1) = true then .next (Γ.set i (some (.dic (putP' ks k xy.1)))) else .bad
      | _, _ => .bad
    | _ => .bad) := p
  cases hg : Γ[i]? with
  | none => rw [hg] at p; exact False.elim p
  | some o =>
    cases o with
    | none => rw [hg] at p; exact False.elim p
    | some q =>
      cases q with
      | dic ks =>
        simp only [hg] at p
        obtain ⟨ρ, h1, h2⟩ := E.own
        obtain ⟨k1, ⟨ws, k2, rs⟩, k3, k4, k5⟩ := h1 i hi _ hg rfl
        refine lend_post (V := V) (good := fun (xy : PV × PV) H0' H' => ∀ v w, Rep X.K H0' xy.1 v → Rep X.K H0' xy.2 w → ∃ a H4, L2.V.ref (ρ i) = .ref a ∧ DPut H' a w v H4 ∧ D.nx σ H4) (R := fun _ H => tOf X e σ H fun v H1 => ∃ x, σ[i]? = some (some x) ∧ tOf X a σ H1 fun y H3 => ∃ a H4, x = .ref a ∧ DPut H3 a y v H4 ∧ D.nx σ H4) io ok E p (fun j => j ∈ V) (fun j hj _ => hj) (fun H0p sh sm q => ?_) fun xy H0' H' _ pn L v w rv rw_ => ?_
        · refine hv Γ σ H0p H _ sh sm (q.step.mono fun x H1 H2 g q1 v rv => ⟨_, k1, ?_⟩)
          exact ha Γ σ H1 H2 _ (sh.mono g.a) g.c (q1.step.mono fun y H3 H4 g2 q2 w rw_ => Post.pure (K := X.K) (W := W) (σ := σ) (good := fun (xy : PV × PV) H0' H' => ∀ v w, Rep X.K H0' xy.1 v → Rep X.K H0' xy.2 w → ∃ a H4, L2.V.ref (ρ i) = .ref a ∧ DPut H' a w v H4 ∧ D.nx σ H4) (a := (x, y)) g2.c q2 v w (Rep.mono g2.a _ _ rv) rw_)
        · obtain ⟨sH, _, H0'', E2, s1, _, _, aw⟩ := L
          obtain ⟨x, y⟩ := xy
          dsimp only at pn rv rw_
          cases hk : keyP y with
          | none => rw [hk] at pn; exact False.elim pn
          | some k =>
            rw [hk] at pn
            dsimp only at pn
            split at pn
            · rename_i hs
              have rx : Rep X.K H0'' x v := aw x v (fun l hl hv q hq => by
                have hs := hs.2
                unfold sep at hs
                have := List.all_eq_true.mp hs l hl
                rw [if_pos hv, hq] at this
                exact this) rv
              refine ⟨ρ i, _, rfl, by rw [keyP_rep hk rw_]; exact DPut.k (sH _ _ k2) (by rw [rs.len, sizeLine_eq]; have := hs.1; omega), ?_⟩
              exact pn _ _ _ (E2.change hi hg rfl k1 ⟨_, upd_same, (RepK.mono s1 _ _ rs).put rx⟩)
            · exact False.elim pn
      | _ => rw [hg] at p; exact False.elim p
end
end Lh.P
set_option Elab.async false
set_option linter.all false
set_option maxRecDepth 100000
set_option maxHeartbeats 4000000
/-! The heap of pairs of ints: heappush and heappop as rules of the layer; their order is left open. -/
namespace Lh
open PySem PySem.Spec PyProof.Rows L2
theorem lt_pairs {prog : Program} {w : World} {A : Around} {E : Value → Shared → Prop} {s : Shared} {l b : Addr} {items items2 : Array Value} {ns ms : List Int} {Q : Value → Shared → Prop} (hl : IsTup s.heap l items) (hb : IsTup s.heap b items2) (hi : IntsAre items.toList ns) (hj : IntsAre items2.toList ms)
    (hu : A.units < cLine) (h : Q (.bool (HT.lexLt ns ms)) s) : wpAny (model prog w) A (richCompare .Lt (.ref l) (.ref b)) Q E s :=
  HT.lt_tupInts hl hb hi hj hu h
abbrev lobj (items : Array Value) (n : Nat) : Obj := { cls := .type "list", dict := none, data := .seq items n, slots := #[] }
/-- v is a tuple of ints -/
def TupI (h : Heap) (v : Value) : Prop := ∃ (t : Addr) (its : Array Value) (ns : List Int), v = .ref t ∧ IsTup h t its ∧ IntsAre its.toList ns
theorem TupI.keep {h h' : Heap} {v : Value} {l : Addr} {items : Array Value} {n : Nat} (hl : h.get? l = some (lobj items n)) (k : ∀ b u, b ≠ l → h.get? b = some u → h'.get? b = some u) (t : TupI h v) : TupI h' v := by
  obtain ⟨t, its, ns, e, ⟨o, ho, hc, m, hd⟩, hi⟩ := t
  refine ⟨t, its, ns, e, ⟨o, ?_, hc, m, hd⟩, hi⟩
  refine k _ _ (fun q => ?_) ho
  rw [q, hl] at ho
  cases ho
  exact absurd (Value.type.inj hc) (by decide)
theorem less_pairs {prog : Program} {w : World} {A : Around} {E : Value → Shared → Prop} {s : Shared} {x y : Value} {Q : Value → Shared → Prop} (hx : TupI s.heap x) (hy : TupI s.heap y)
    (hu : A.units < cLine) (h : ∀ b : Bool, Q (.bool b) s) : wpAny (model prog w) A (richCompare .Lt x y) Q E s := by
  obtain ⟨t, its, ns, rfl, h1, h2⟩ := hx
  obtain ⟨t', its', ns', rfl, h3, h4⟩ := hy
  exact lt_pairs h1 h3 h2 h4 hu (h _)
/-- the list at l rearranged, all else as before -/
structure Moved (h : Heap) (l : Addr) (items : List Value) (h' : Heap) : Prop where
  at_ : ∃ (its : Array Value) (n : Nat), its.toList.Perm items ∧ h'.get? l = some (lobj its n)
  keep : ∀ b u, b ≠ l → h.get? b = some u → h'.get? b = some u
theorem Moved.trans {h h1 h2 : Heap} {l : Addr} {a b : List Value} (m : Moved h1 l b h2) (p : b.Perm a) (k : ∀ b u, b ≠ l → h.get? b = some u → h1.get? b = some u) : Moved h l a h2 := by
  obtain ⟨⟨its, n, q, e⟩, k2⟩ := m
  exact ⟨⟨its, n, q.trans p, e⟩, fun b u hb hu => k2 b u hb (k b u hb hu)⟩
theorem swap_perm (xs : Array Value) (i j : Nat) (hi : i < xs.size) (hj : j < xs.size) : ((xs.setIfInBounds i xs[j]!).setIfInBounds j xs[i]!).toList.Perm xs.toList := by
  have e1 : xs[j]! = xs[j] := getElem!_pos xs j hj
  have e2 : xs[i]! = xs[i] := getElem!_pos xs i hi
  have e : (xs.setIfInBounds i xs[j]!).setIfInBounds j xs[i]! = xs.swap i j hi hj := by
    rw [e1, e2]
    apply Array.ext_getElem?
    intro k
    simp only [Array.getElem?_setIfInBounds, Array.getElem?_swap, Array.size_setIfInBounds]
    by_cases a : j = k
    · subst a
      simp [hj]
    · by_cases b : i = k
      · subst b
        have : ¬ i = j := fun q => a q.symm
        simp [a, hi]
      · simp [a, b]
  rw [e]
  exact Array.perm_iff_toList_perm.mp (Array.swap_perm hi hj)
def siftSpec (l : Addr) (items : Array Value) (n : Nat) (res : Value) : PySem.Spec := fun A R s => s.heap.get? l = some (lobj items n) ∧ (∀ v ∈ items, TupI s.heap v) ∧ A.in1.units < cLine ∧ items.size ≤ sizeLine ∧
  ∀ h', Moved s.heap l items.toList h' → R (.ok (.ret res)) { s with heap := h' }
theorem plain_sift : plainId "_heapq.heapify.sift" = true := by decide +kernel
theorem entry_sift : entryFor table "_heapq.heapify.sift" = some Builtin.«_heapq.heapify.sift» := entryFor_of_tree (by kernel_rfl)
theorem again_sift {prog : Program} {w : World} {A : Around} {R : Result → Shared → Prop} {s : Shared} {args : Args} {S : PySem.Spec} (g : Meets (Builtin.«_heapq.heapify.sift» args) S) (h : S A R s) :
    (Code.builtin "_heapq.heapify.sift" args).quiet = true ∧ codeAny (model prog w) A (.builtin "_heapq.heapify.sift" args) R s :=
  ⟨plainId_quiet plain_sift _, codeAny_builtin entry_sift (by rw [Around.under_plainId plain_sift args]; exact g prog w A R s h)⟩
theorem swapped {h : Heap} {l : Addr} {items : Array Value} {n : Nat} (hl : h.get? l = some (lobj items n)) (F : Array Value → Array Value) : (h.update l (Obj.mapSeq F)).get? l = some (lobj (F items) (if ((F items).size == items.size) = true then n else n + 1)) := PySem.IsL.update hl F
theorem sift (l : Addr) (res : Value) : ∀ (m : Nat) (down : Bool) (pos top : Nat) (items : Array Value) (n : Nat), (if down = true then 2 * items.size + 1 - pos else pos) < m → pos < items.size →
    Meets (Builtin.«_heapq.heapify.sift» ⟨[.ref l, .bool false, .bool down, rawInt pos, rawInt top, res, rawInt (-1)], []⟩) (siftSpec l items n res) := by
  intro m
  induction m with
  | zero =>
    intro down pos top items n hm hp prog w A R s h
    exact absurd hm (Nat.not_lt_zero _)
  | succ m ih =>
    intro down pos top items n hm hp prog w A R s h
    obtain ⟨hp, g, d, tk, os⟩ := s
    obtain ⟨hl, ha, hu, hz, hR⟩ := h
    have get : ∀ i, i < items.size → items[i]? = some items[i]! := fun i hi => by rw [getElem!_pos items i hi]; exact Array.getElem?_eq_getElem hi
    have tup : ∀ i, i < items.size → TupI hp items[i]! := fun i hi => ha _ (by rw [getElem!_pos items i hi]; exact Array.getElem_mem hi)
    -- behind a swap
    have nxt : ∀ (i j : Nat) (down' : Bool) (top' : Nat), i < items.size → j < items.size → (if down' = true then 2 * items.size + 1 - i else i) < m →
        (Code.builtin "_heapq.heapify.sift" ⟨[.ref l, .bool false, .bool down', rawInt i, rawInt top', res, rawInt (-1)], []⟩).quiet = true ∧
        codeAny (model prog w) A (.builtin "_heapq.heapify.sift" ⟨[.ref l, .bool false, .bool down', rawInt i, rawInt top', res, rawInt (-1)], []⟩) R
          { heap := hp.update l (Obj.mapSeq fun xs => (xs.setIfInBounds i items[j]!).setIfInBounds j items[i]!), gens := g, drawn := d, toks := tk, os := os } := by
      intro i j down' top' hi hj hm'
      have sz : ((items.setIfInBounds i items[j]!).setIfInBounds j items[i]!).size = items.size := by simp
      have pm := swap_perm items i j hi hj
      have kp : ∀ b u, b ≠ l → hp.get? b = some u → (hp.update l (Obj.mapSeq fun xs => (xs.setIfInBounds i items[j]!).setIfInBounds j items[i]!)).get? b = some u := fun b u hb hu => (Heap.get?_update_ne _ _ _ _ hb).trans hu
      refine again_sift (ih down' i top' ((items.setIfInBounds i items[j]!).setIfInBounds j items[i]!) _ (by rw [sz]; exact hm') (by rw [sz]; exact hi)) ⟨swapped hl _, fun v hv => ?_, hu, by rw [sz]; exact hz, fun h' mv => hR h' (mv.trans pm kp)⟩
      exact (ha v (Array.mem_toList_iff.mp (pm.mem_iff.mp (Array.mem_toList_iff.mpr hv)))).keep hl kp
    have szs : ∀ (i j : Nat) (x y : Value), ((fun xs : Array Value => (xs.setIfInBounds i x).setIfInBounds j y) items).size ≤ sizeLine + 1 := fun i j x y => by simp; omega
    have hl' : ({ heap := hp, gens := g, drawn := d, toks := tk, os := os } : Shared).heap.get? l = some (lobj items n) := hl
    cases down with
    | true =>
      rw [if_pos rfl] at hm
      wp_walk
      simp only [Int.toNat_natCast]
      by_cases c1 : pos < items.size / 2
      · wp_walk
        by_cases c2 : 2 * pos + 1 + 1 < items.size
        · wp_walk
          rw [get (2 * pos + 1) (by omega)]
          wp_walk
          rw [get (2 * pos + 1 + 1) (by omega)]
          wp_walk using (less_pairs (tup _ (by omega)) (tup _ (by omega)) hu)
          intro b
          cases b
          · wp_walk
            rw [get (2 * pos + 1 + 1) (by omega)]
            wp_walk
            rw [get pos (by omega)]
            wp_walk using (wpAny_updateSeq hl' rfl (hz := hz) (_hz' := szs _ _ _ _))
            exact nxt (2 * pos + 1 + 1) pos true top (by omega) (by omega) (by rw [if_pos rfl]; omega)
          · wp_walk
            rw [get (2 * pos + 1) (by omega)]
            wp_walk
            rw [get pos (by omega)]
            wp_walk using (wpAny_updateSeq hl' rfl (hz := hz) (_hz' := szs _ _ _ _))
            exact nxt (2 * pos + 1) pos true top (by omega) (by omega) (by rw [if_pos rfl]; omega)
        · wp_walk
          rw [get (2 * pos + 1) (by omega)]
          wp_walk
          rw [get pos (by omega)]
          wp_walk using (wpAny_updateSeq hl' rfl (hz := hz) (_hz' := szs _ _ _ _))
          exact nxt (2 * pos + 1) pos true top (by omega) (by omega) (by rw [if_pos rfl]; omega)
      · wp_walk
        refine again_sift (ih false pos top items n (by rw [if_neg (by decide)]; omega) (by omega)) ⟨hl, ha, hu, hz, hR⟩
    | false =>
      rw [if_neg (by decide)] at hm
      wp_walk
      simp only [Int.toNat_natCast]
      have done : R (.ok (.ret res)) { heap := hp, gens := g, drawn := d, toks := tk, os := os } := hR hp ⟨⟨items, n, List.Perm.refl _, hl⟩, fun _ _ _ z => z⟩
      by_cases c1 : pos > top
      · wp_walk
        rw [get pos (by omega)]
        wp_walk
        rw [get ((pos - 1) / 2) (by omega)]
        wp_walk using (less_pairs (tup _ (by omega)) (tup _ (by omega)) hu)
        intro b
        cases b
        · wp_walk
          exact done
        · wp_walk
          rw [get ((pos - 1) / 2) (by omega)]
          wp_walk
          rw [get pos (by omega)]
          wp_walk using (wpAny_updateSeq hl' rfl (hz := hz) (_hz' := szs _ _ _ _))
          exact nxt ((pos - 1) / 2) pos false top (by omega) (by omega) (by rw [if_neg (by decide)]; omega)
      · wp_walk
        exact done
end Lh
set_option Elab.async false
set_option linter.all false
set_option maxRecDepth 100000
set_option maxHeartbeats 4000000
namespace Lh
open PySem PySem.Spec PyProof.Rows L2
theorem plain_push : plainId "_heapq.heappush" = true := by decide +kernel
theorem entry_push : entryFor table "_heapq.heappush" = some Builtin.«_heapq.heappush» := entryFor_of_tree (by kernel_rfl)
theorem plain_pop : plainId "_heapq.heappop" = true := by decide +kernel
theorem entry_pop : entryFor table "_heapq.heappop" = some Builtin.«_heapq.heappop» := entryFor_of_tree (by kernel_rfl)
theorem kind_push : builtinKind "_heapq.heappush" = none := by decide +kernel
theorem kind_pop : builtinKind "_heapq.heappop" = none := by decide +kernel
theorem args_push (a b : Value) : argsOk "_heapq.heappush" ⟨[a, b], []⟩ := by
  unfold argsOk
  rfl
theorem args_pop (a : Value) : argsOk "_heapq.heappop" ⟨[a], []⟩ := by
  unfold argsOk
  rfl

theorem sub_list : isSubtype (.type "list") (.type "list") = pure true := by rw [isSubtype_type]; kernel_rfl
def pushSpec (l : Addr) (items : Array Value) (n : Nat) (x : Value) : PySem.Spec := fun A R s => s.heap.get? l = some (lobj items n) ∧ (∀ v ∈ items, TupI s.heap v) ∧ TupI s.heap x ∧ A.in1.units < cLine ∧ items.size + 1 ≤ sizeLine ∧
  ∀ h', Moved s.heap l (items.toList ++ [x]) h' → R (.ok (.ret .none)) { s with heap := h' }
theorem meets_push (l : Addr) (items : Array Value) (n : Nat) (x : Value) : Meets (Builtin.«_heapq.heappush» ⟨[.ref l, x], []⟩) (pushSpec l items n x) := by
  intro prog w A R s h
  obtain ⟨hp, g, d, tk, os⟩ := s
  obtain ⟨hl, ha, hx, hu, hz, hR⟩ := h
  have hl' : ({ heap := hp, gens := g, drawn := d, toks := tk, os := os } : Shared).heap.get? l = some (lobj items n) := hl
  have hT : ({ heap := hp, gens := g, drawn := d, toks := tk, os := os } : Shared).TypeIs (.ref l) "list" := ⟨_, hl, rfl⟩
  have hs := sub_list
  have hz0 : items.size ≤ sizeLine := by omega
  have hz1 : (items.push x).size ≤ sizeLine + 1 := by simp; omega
  have kp : ∀ b u, b ≠ l → hp.get? b = some u → (hp.update l (Obj.mapSeq fun xs => xs.push x)).get? b = some u := fun b u hb hu => (Heap.get?_update_ne _ _ _ _ hb).trans hu
  wp_walk using (wpAny_updateSeq hl' rfl (hz := hz0) (_hz' := hz1))
  have h2 : (hp.update l (Obj.mapSeq fun xs => xs.push x)).get? l = some (lobj (items.push x) _) := PySem.IsL.update hl fun xs => xs.push x
  wp_walk using (wpAny_seqItems h2 rfl)
  have e : (items.push x).size - 1 = items.size := by simp
  rw [e]
  refine again_sift (sift l .none (items.size + 1) false items.size 0 (items.push x) _ (by rw [if_neg (by decide)]; omega) (by rw [Array.size_push]; omega)) ⟨h2, fun v hv => ?_, hu, by rw [Array.size_push]; omega, fun h' mv => hR h' (mv.trans (show (items.push x).toList.Perm (items.toList ++ [x]) by rw [Array.toList_push]) kp)⟩
  rcases Array.mem_push.mp hv with q | q
  · exact (ha v q).keep hl kp
  · rw [q]
    exact hx.keep hl kp
def popSpec (l : Addr) (items : Array Value) (n : Nat) : PySem.Spec := fun A R s => s.heap.get? l = some (lobj items n) ∧ (∀ v ∈ items, TupI s.heap v) ∧ A.in1.units < cLine ∧ items.size ≤ sizeLine ∧ 0 < items.size ∧
  ∀ h' v rest, (v :: rest).Perm items.toList → Moved s.heap l rest h' → R (.ok (.ret v)) { s with heap := h' }
theorem meets_pop (l : Addr) (items : Array Value) (n : Nat) : Meets (Builtin.«_heapq.heappop» ⟨[.ref l], []⟩) (popSpec l items n) := by
  intro prog w A R s h
  obtain ⟨hp, g, d, tk, os⟩ := s
  obtain ⟨hl, ha, hu, hz, h0, hR⟩ := h
  have hl' : ({ heap := hp, gens := g, drawn := d, toks := tk, os := os } : Shared).heap.get? l = some (lobj items n) := hl
  have hT : ({ heap := hp, gens := g, drawn := d, toks := tk, os := os } : Shared).TypeIs (.ref l) "list" := ⟨_, hl, rfl⟩
  have hs := sub_list
  obtain ⟨its, x, rfl⟩ : ∃ its x, items = Array.push its x := Array.eq_push_of_size_ne_zero (by omega)
  have kp : ∀ b u, b ≠ l → hp.get? b = some u → (hp.update l (Obj.mapSeq fun xs => xs.pop)).get? b = some u := fun b u hb hu => (Heap.get?_update_ne _ _ _ _ hb).trans hu
  have hz1 : ((fun xs : Array Value => xs.pop) (its.push x)).size ≤ sizeLine + 1 := by simp at hz ⊢; omega
  wp_walk using (wpAny_seqItems hl' rfl)
  have eb : (its.push x).back? = some x := by simp
  rw [eb]
  wp_walk using (wpAny_updateSeq hl' rfl (hz := hz) (_hz' := hz1))
  have h2 : (hp.update l (Obj.mapSeq fun xs => xs.pop)).get? l = some (lobj its (if (its.size == (its.push x).size) = true then n else n + 1)) := by
    have q := PySem.IsL.update hl fun xs => xs.pop
    simp only [Array.pop_push] at q
    exact q
  by_cases c : its.size = 0
  · have e0 : its = #[] := Array.eq_empty_of_size_eq_zero c
    subst e0
    rw [if_pos (by simp)]
    wp_walk
    exact hR _ x [] (by simp) ⟨⟨_, _, List.Perm.refl _, h2⟩, kp⟩
  · rw [if_neg (by simp; exact fun q => c (by rw [q]; rfl))]
    have e1 : (its.push x)[0]? = some its[0]! := by
      rw [getElem!_pos its 0 (by omega), Array.getElem?_push_lt (by omega)]
    wp_walk
    rw [e1]
    have hz2 : its.size ≤ sizeLine := by simp at hz; omega
    have hz3 : ((fun xs : Array Value => xs.setIfInBounds 0 x) its).size ≤ sizeLine + 1 := by simp; omega
    have kp2 : ∀ b u, b ≠ l → hp.get? b = some u → ((hp.update l (Obj.mapSeq fun xs => xs.pop)).update l (Obj.mapSeq fun xs => xs.setIfInBounds 0 x)).get? b = some u := fun b u hb hu => (Heap.get?_update_ne _ _ _ _ hb).trans (kp b u hb hu)
    wp_walk using (wpAny_updateSeq h2 rfl (hz := hz2) (_hz' := hz3))
    have h3 : ((hp.update l (Obj.mapSeq fun xs => xs.pop)).update l (Obj.mapSeq fun xs => xs.setIfInBounds 0 x)).get? l = some (lobj (its.setIfInBounds 0 x) _) := PySem.IsL.update h2 fun xs => xs.setIfInBounds 0 x
    have hi : 0 < its.size := by omega
    have sz : (its.setIfInBounds 0 x).size = its.size := by simp
    refine again_sift (sift l its[0]! (2 * its.size + 2) true 0 0 (its.setIfInBounds 0 x) _ (by rw [if_pos rfl, sz]; omega) (by rw [sz]; exact hi)) ⟨h3, fun v hv => ?_, hu, by rw [sz]; exact hz2, fun h' mv => hR h' its[0]! (its.setIfInBounds 0 x).toList ?_ (mv.trans (List.Perm.refl _) kp2)⟩
    · have : v ∈ its.push x := by
        rcases Array.getElem_of_mem hv with ⟨i, hi2, e⟩
        rw [sz] at hi2
        by_cases i0 : i = 0
        · subst i0
          simp at e
          rw [← e]
          simp
        · rw [Array.getElem_setIfInBounds_ne (by omega) (fun q => i0 q.symm)] at e
          rw [← e]
          exact Array.mem_push.mpr (.inl (Array.getElem_mem _))
      exact (ha v this).keep hl kp2
    · rw [getElem!_pos its 0 hi, Array.toList_push]
      obtain ⟨ls⟩ := its
      cases ls with
      | nil => simp at hi
      | cons a r =>
        simp
        exact (List.perm_append_singleton x r).symm
end Lh

namespace Lh
open PySem PySem.Spec PyProof.Rows L2
/-! ### as rules of the layer -/
def rPush : List V → Hp → VK → Prop := fun vs H Q => ∃ (l : Addr) (xs : List V) (x : V), vs = [.ref l, x] ∧ H l = some (.lst xs) ∧ xs.length < sizeLine ∧ (∀ y ∈ xs ++ [x], ∃ (t : Addr) (i j : Int), y = .ref t ∧ H t = some (.tup [.int i, .int j])) ∧
  ∀ ys, ys.Perm (xs ++ [x]) → Q .non (upd H l (.lst ys))
def rPop : List V → Hp → VK → Prop := fun vs H Q => ∃ (l : Addr) (xs : List V), vs = [.ref l] ∧ H l = some (.lst xs) ∧ xs ≠ [] ∧ (∀ y ∈ xs, ∃ (t : Addr) (i j : Int), y = .ref t ∧ H t = some (.tup [.int i, .int j])) ∧
  ∀ v ys, (v :: ys).Perm xs → Q v (upd H l (.lst ys))
section
variable {X : Cx} {pins : List (Addr × Obj)} {σ : L2.St} {H : Hp} {s : Shared}
theorem tupI_of (I : Inv X pins σ H s) {t : Addr} {i j : Int} {u : Value} (h : H t = some (.tup [.int i, .int j])) (r : RelV (.ref t) u) : TupI s.heap u := by
  obtain ⟨its, rv, ht, _⟩ := I.tuple (SqT.of h)
  obtain rfl : u = Value.ref t := r
  have e : [V.int i, V.int j] = ([i, j] : List Int).map V.int := rfl
  rw [e] at rv
  exact ⟨t, its.toArray, [i, j], rfl, ht, intsAre_of rv⟩
/-- values that are references, and those that are them -/
theorem vals_perm {xs : List V} {its its' : List Value} (hx : ∀ y ∈ xs, ∃ t : Addr, y = .ref t) (r : Vals xs its) (p : its'.Perm its) : ∃ ys, ys.Perm xs ∧ Vals ys its' := by
  obtain ⟨e1, e2⟩ := refs_back r hx
  refine ⟨its'.map backV, ?_, vals_back fun u hu => e2 u (p.mem_iff.mp hu)⟩
  rw [e1]
  exact p.map backV
theorem moved_write (I : Inv X pins σ H s) {l : Addr} {xs ys : List V} {its : List Value} {h' : Heap} {t' : Nat} (hH : H l = some (.lst xs)) (m : Moved s.heap l its h') (hx : ∀ y ∈ ys, ∃ t : Addr, y = .ref t) (r : Vals ys its) (hz : ys.length ≤ sizeLine) :
    ∃ zs, zs.Perm ys ∧ Inv X pins σ (upd H l (.lst zs)) { s with heap := h', toks := t' } := by
  obtain ⟨⟨its', n, p, e⟩, k⟩ := m
  obtain ⟨zs, pz, rz⟩ := vals_perm hx r p
  refine ⟨zs, pz, I.write (x := l) (e := l) (by rw [hH]; exact trivial) (.inl rfl) k ⟨_, e⟩ ⟨by rw [pz.length_eq]; exact hz, its'.toList, n, rz, ?_⟩⟩
  rw [e]
theorem tups_of (I : Inv X pins σ H s) {xs : List V} {its : List Value} (hp : ∀ y ∈ xs, ∃ (t : Addr) (i j : Int), y = .ref t ∧ H t = some (.tup [.int i, .int j])) (r : Vals xs its) : ∀ w ∈ its, TupI s.heap w := fun w hw => by
  obtain ⟨e1, e2⟩ := refs_back r fun y hy => by
    obtain ⟨t, _, _, e, _⟩ := hp y hy
    exact ⟨t, e⟩
  obtain ⟨a, rfl⟩ := e2 w hw
  have hm : V.ref a ∈ xs := by rw [e1]; exact List.mem_map.mpr ⟨_, hw, rfl⟩
  obtain ⟨t, i, j, e, ht⟩ := hp _ hm
  cases e
  exact tupI_of I ht rfl
theorem call_push (hu : X.A.in1.units < cLine) : CallR X (.builtin "_heapq.heappush") rPush := by
  intro pins s σ H vs us Q I r h
  obtain ⟨l, xs, x, rfl, hl, hz, hp, q⟩ := h
  obtain ⟨u, v, rfl, ru, rv⟩ := vals2 r
  obtain rfl : u = Value.ref l := ru
  obtain ⟨z, its, n, ri, hlen, e⟩ := I.lstM hl
  have all : Vals (xs ++ [x]) (its ++ [v]) := ri.append (.cons rv .nil)
  have tup := tups_of I hp all
  have hxr : ∀ y ∈ xs ++ [x], ∃ t : Addr, y = .ref t := fun y hy => by
    obtain ⟨t, _, _, e, _⟩ := hp y hy
    exact ⟨t, e⟩
  refine call_function_meets kind_push plain_push entry_push (args_push _ _) (meets_push l its.toArray n v) ⟨e, fun w hw => tup w (by simp at hw; simp [hw]), tup v (by simp), hu, by rw [List.size_toArray]; omega, fun h' m => ?_⟩
  obtain ⟨zs, pz, J⟩ := moved_write (t' := s.toks) I hl m hxr all (by rw [List.length_append, List.length_singleton]; omega)
  exact ⟨.non, _, J, rfl, q zs pz⟩
theorem call_pop (hu : X.A.in1.units < cLine) : CallR X (.builtin "_heapq.heappop") rPop := by
  intro pins s σ H vs us Q I r h
  obtain ⟨l, xs, rfl, hl, hne, hp, q⟩ := h
  obtain ⟨u, rfl, ru⟩ := vals1 r
  obtain rfl : u = Value.ref l := ru
  obtain ⟨z, its, n, ri, hlen, e⟩ := I.lstM hl
  have tup := tups_of I hp ri
  have hxr : ∀ y ∈ xs, ∃ t : Addr, y = .ref t := fun y hy => by
    obtain ⟨t, _, _, e, _⟩ := hp y hy
    exact ⟨t, e⟩
  have h0 : 0 < xs.length := List.length_pos_iff.mpr hne
  refine call_function_meets kind_pop plain_pop entry_pop (args_pop _) (meets_pop l its.toArray n) ⟨e, fun w hw => tup w (by simpa using hw), hu, by rw [List.size_toArray]; omega, by rw [List.size_toArray]; omega, fun h' v rest p m => ?_⟩
  obtain ⟨zs, pz, rz⟩ := vals_perm hxr ri p
  cases rz with
  | cons rv rr =>
    rename_i y ys
    have hyr : ∀ w ∈ ys, ∃ t : Addr, w = .ref t := fun w hw => hxr w (pz.mem_iff.mp (List.mem_cons_of_mem _ hw))
    have hl2 : ys.length ≤ sizeLine := by
      have := pz.length_eq
      simp at this
      omega
    obtain ⟨ws, pw, J⟩ := moved_write (t' := s.toks) I hl m hyr rr hl2
    exact ⟨y, _, J, rv, q y ws ((List.Perm.cons y pw).trans pz)⟩
/-- a name of the module that holds a built-in function, called -/
theorem pe_callG {x : Str} {id : String} {e : Expr} {es : List Expr} {p pos : Pos} {t : TA} {r : List V → Hp → VK → Prop} (hc : CallR X (.builtin id) r) (hg : Gl X x) (hm : X.mg x = some (.builtin id)) (ha : PA X (e :: es) t) (hdb : (x == ("__debug__" : Str)) = false := by decide)
    (he : starEach (e :: es) X.env = (false, eval e X.env) :: starEach es X.env := by rfl) (hpl : (backTo pos (starEach es X.env)).any (·.1) = false := by rfl) : PE X (.Call (.Name x p) (e :: es) [] pos) (tCB r t) := by
  refine ⟨fun pins s σ H Q I h => ?_⟩
  refine wpAny_Call_Name_kw (ld_glob I hg hm ?_ hdb)
  exact PyProof.Rows.callWith_builtin1 (thn (ha.run pos pins s σ H _ I h) fun us s1 ⟨vs, H1, I1, r1, q1⟩ => hc pins s1 σ H1 vs us Q I1 r1 q1) he hpl
end
end Lh
set_option Elab.async false
set_option linter.all false
set_option maxRecDepth 100000
set_option maxHeartbeats 4000000
/-! The heap told exactly: what heappush and heappop make of a list. -/
namespace Lh
open PySem PySem.Spec PyProof.Rows L2
section
variable {α β : Type}
def swapL (xs : List α) (i j : Nat) : List α := match xs[i]?, xs[j]? with
  | some a, some b => (xs.set i b).set j a
  | _, _ => xs
def ltAt (lt : α → α → Bool) (xs : List α) (i j : Nat) : Bool := match xs[i]?, xs[j]? with
  | some a, some b => lt a b
  | _, _ => false
def siftF (lt : α → α → Bool) : Nat → Bool → Nat → Nat → List α → List α
  | 0, _, _, _, xs => xs
  | m + 1, true, pos, top, xs => if pos < xs.length / 2 then
      (if 2 * pos + 1 + 1 < xs.length ∧ ltAt lt xs (2 * pos + 1) (2 * pos + 1 + 1) = false then siftF lt m true (2 * pos + 1 + 1) top (swapL xs (2 * pos + 1 + 1) pos) else siftF lt m true (2 * pos + 1) top (swapL xs (2 * pos + 1) pos))
    else siftF lt m false pos top xs
  | m + 1, false, pos, top, xs => if pos > top ∧ ltAt lt xs pos ((pos - 1) / 2) = true then siftF lt m false ((pos - 1) / 2) top (swapL xs ((pos - 1) / 2) pos) else xs
def pushF (lt : α → α → Bool) (xs : List α) (x : α) : List α := siftF lt (xs.length + 1) false xs.length 0 (xs ++ [x])
def popF (lt : α → α → Bool) (xs : List α) : Option (α × List α) := match xs.getLast? with
  | none => none
  | some x => match xs.dropLast with
    | [] => some (x, [])
    | a :: r => some (a, siftF lt (2 * (r.length + 1) + 2) true 0 0 (x :: r))
theorem swapL_len (xs : List α) (i j : Nat) : (swapL xs i j).length = xs.length := by
  unfold swapL
  split <;> simp
theorem swapL_perm (xs : List α) (i j : Nat) : (swapL xs i j).Perm xs := by
  unfold swapL
  split
  · rename_i a b ha hb
    obtain ⟨hi, ea⟩ := List.getElem?_eq_some_iff.mp ha
    obtain ⟨hj, eb⟩ := List.getElem?_eq_some_iff.mp hb
    have h := Array.swap_perm (xs := xs.toArray) (i := i) (j := j) (by simpa using hi) (by simpa using hj)
    have h := Array.perm_iff_toList_perm.mp h
    simp only [Array.toList_swap, List.getElem_toArray] at h
    rw [← ea, ← eb]
    exact h
  · exact List.Perm.refl _
theorem siftF_perm (lt : α → α → Bool) : ∀ (m : Nat) (d : Bool) (pos top : Nat) (xs : List α), (siftF lt m d pos top xs).Perm xs
  | 0, _, _, _, _ => List.Perm.refl _
  | m + 1, true, pos, top, xs => by
    unfold siftF
    split
    · split
      · exact (siftF_perm lt m _ _ _ _).trans (swapL_perm _ _ _)
      · exact (siftF_perm lt m _ _ _ _).trans (swapL_perm _ _ _)
    · exact siftF_perm lt m _ _ _ _
  | m + 1, false, pos, top, xs => by
    unfold siftF
    split
    · exact (siftF_perm lt m _ _ _ _).trans (swapL_perm _ _ _)
    · exact List.Perm.refl _
theorem pushF_perm (lt : α → α → Bool) (xs : List α) (x : α) : (pushF lt xs x).Perm (x :: xs) := (siftF_perm lt _ _ _ _ _).trans (List.perm_append_singleton x xs)
theorem popF_perm {lt : α → α → Bool} {xs ys : List α} {x : α} (h : popF lt xs = some (x, ys)) : (x :: ys).Perm xs := by
  unfold popF at h
  cases hl : xs.getLast? with
  | none => rw [hl] at h; cases h
  | some z =>
    rw [hl] at h
    have hne : xs ≠ [] := by intro e; subst e; cases hl
    have e0 : xs.dropLast ++ [z] = xs := by
      rw [List.getLast?_eq_some_getLast hne] at hl
      cases hl
      exact List.dropLast_concat_getLast hne
    cases hd : xs.dropLast with
    | nil =>
      rw [hd] at h e0
      cases h
      rw [← e0]; exact List.Perm.refl _
    | cons a r =>
      rw [hd] at h e0
      cases h
      rw [← e0]
      refine (List.Perm.cons _ (siftF_perm lt _ _ _ _ _)).trans ?_
      show (x :: z :: r).Perm (x :: (r ++ [z]))
      exact List.Perm.cons _ (List.perm_append_singleton z r).symm
theorem popF_none {lt : α → α → Bool} {xs : List α} (h : xs ≠ []) : ∃ x ys, popF lt xs = some (x, ys) := by
  unfold popF
  rw [List.getLast?_eq_some_getLast h]
  cases xs.dropLast with
  | nil => exact ⟨_, _, rfl⟩
  | cons a r => exact ⟨_, _, rfl⟩
/-! ### by what two lists stand for -/
variable {R : α → β → Prop}
theorem paired_get {xs : List α} {ys : List β} (h : Paired R xs ys) : ∀ (i : Nat), (xs[i]? = none ∧ ys[i]? = none) ∨ ∃ a b, xs[i]? = some a ∧ ys[i]? = some b ∧ R a b := by
  induction h with
  | nil => intro i; exact .inl ⟨by simp, by simp⟩
  | cons r t ih =>
    intro i
    cases i with
    | zero => exact .inr ⟨_, _, rfl, rfl, r⟩
    | succ i => simpa using ih i
theorem paired_set {xs : List α} {ys : List β} (h : Paired R xs ys) {a : α} {b : β} (r : R a b) : ∀ (i : Nat), Paired R (xs.set i a) (ys.set i b) := by
  induction h with
  | nil => intro i; exact .nil
  | cons r' t ih =>
    intro i
    cases i with
    | zero => exact .cons r t
    | succ i => exact .cons r' (ih i)
theorem paired_len {xs : List α} {ys : List β} (h : Paired R xs ys) : xs.length = ys.length := by
  induction h with
  | nil => rfl
  | cons _ _ ih => rw [List.length_cons, List.length_cons, ih]
theorem paired_swap {xs : List α} {ys : List β} (h : Paired R xs ys) (i j : Nat) : Paired R (swapL xs i j) (swapL ys i j) := by
  unfold swapL
  rcases paired_get h i with ⟨h1, h2⟩ | ⟨a, b, h1, h2, r⟩
  · rw [h1, h2]; exact h
  · rcases paired_get h j with ⟨h3, h4⟩ | ⟨c, d, h3, h4, r2⟩
    · rw [h1, h2, h3, h4]; exact h
    · rw [h1, h2, h3, h4]
      exact paired_set (paired_set h r2 i) r j
theorem paired_lt {lt : α → α → Bool} {lt' : β → β → Bool} (hlt : ∀ a b a' b', R a a' → R b b' → lt a b = lt' a' b') {xs : List α} {ys : List β} (h : Paired R xs ys) (i j : Nat) : ltAt lt xs i j = ltAt lt' ys i j := by
  unfold ltAt
  rcases paired_get h i with ⟨h1, h2⟩ | ⟨a, b, h1, h2, r⟩
  · rw [h1, h2]
  · rcases paired_get h j with ⟨h3, h4⟩ | ⟨c, d, h3, h4, r2⟩
    · rw [h1, h2, h3, h4]
    · rw [h1, h2, h3, h4]; exact hlt _ _ _ _ r r2
theorem siftF_rel {lt : α → α → Bool} {lt' : β → β → Bool} (hlt : ∀ a b a' b', R a a' → R b b' → lt a b = lt' a' b') : ∀ (m : Nat) (d : Bool) (pos top : Nat) (xs : List α) (ys : List β), Paired R xs ys → Paired R (siftF lt m d pos top xs) (siftF lt' m d pos top ys)
  | 0, _, _, _, _, _, h => h
  | m + 1, true, pos, top, xs, ys, h => by
    unfold siftF
    rw [paired_len h, paired_lt hlt h]
    split
    · split
      · exact siftF_rel hlt m _ _ _ _ _ (paired_swap h _ _)
      · exact siftF_rel hlt m _ _ _ _ _ (paired_swap h _ _)
    · exact siftF_rel hlt m _ _ _ _ _ h
  | m + 1, false, pos, top, xs, ys, h => by
    unfold siftF
    rw [paired_lt hlt h]
    split
    · exact siftF_rel hlt m _ _ _ _ _ (paired_swap h _ _)
    · exact h
theorem paired_app {xs xs' : List α} {ys ys' : List β} (h : Paired R xs ys) (h' : Paired R xs' ys') : Paired R (xs ++ xs') (ys ++ ys') := by
  induction h with
  | nil => exact h'
  | cons r t ih => exact .cons r ih
theorem pushF_rel {lt : α → α → Bool} {lt' : β → β → Bool} (hlt : ∀ a b a' b', R a a' → R b b' → lt a b = lt' a' b') {xs : List α} {ys : List β} (h : Paired R xs ys) {x : α} {y : β} (r : R x y) : Paired R (pushF lt xs x) (pushF lt' ys y) := by
  unfold pushF
  rw [paired_len h]
  exact siftF_rel hlt _ _ _ _ _ _ (paired_app h (.cons r .nil))
theorem popF_rel {lt : α → α → Bool} {lt' : β → β → Bool} (hlt : ∀ a b a' b', R a a' → R b b' → lt a b = lt' a' b') {xs : List α} {ys : List β} (h : Paired R xs ys) {y : β} {zs : List β} (e : popF lt' ys = some (y, zs)) : ∃ x ws, popF lt xs = some (x, ws) ∧ R x y ∧ Paired R ws zs := by
  have hd : Paired R xs.dropLast ys.dropLast := by
    induction h with
    | nil => exact .nil
    | cons r t ih =>
      cases t with
      | nil => exact .nil
      | cons r2 t2 => exact .cons r (by
          have : ∀ {xs : List α} {ys : List β}, Paired R xs ys → Paired R xs.dropLast ys.dropLast := by
            intro xs ys h
            induction h with
            | nil => exact .nil
            | cons r t ih =>
              cases t with
              | nil => exact .nil
              | cons r2 t2 => exact .cons r ih
          exact this (.cons r2 t2))
  have hl : (xs.getLast? = none ∧ ys.getLast? = none) ∨ ∃ a b, xs.getLast? = some a ∧ ys.getLast? = some b ∧ R a b := by
    rw [List.getLast?_eq_getElem?, List.getLast?_eq_getElem?, paired_len h]
    exact paired_get h _
  unfold popF at e ⊢
  rcases hl with ⟨_, h2⟩ | ⟨a, b, h1, h2, r⟩
  · rw [h2] at e; cases e
  · rw [h2] at e
    rw [h1]
    dsimp only at e ⊢
    generalize xs.dropLast = us at hd ⊢
    generalize ys.dropLast = vs at hd e
    cases hd with
    | nil => cases e; exact ⟨_, _, rfl, r, .nil⟩
    | cons r2 t2 =>
      cases e
      refine ⟨_, _, rfl, r2, ?_⟩
      rw [paired_len t2]
      exact siftF_rel hlt _ _ _ _ _ _ (.cons r t2)
end
/-! ### the walk of the built-in -/
/-- two values of S can be laid side by side wherever all but the list at l stands as in h; c tells the outcome -/
def Cmp (l : Addr) (h : Heap) (c : Value → Value → Bool) (S : Value → Prop) : Prop := ∀ (s : Shared), (∀ b u, b ≠ l → h.get? b = some u → s.heap.get? b = some u) → ∀ {prog : Program} {w : World} {A : Around} {E : Value → Shared → Prop} {x y : Value} {Q : Value → Shared → Prop}, S x → S y → A.units < cLine → Q (.bool (c x y)) s → wpAny (model prog w) A (richCompare .Lt x y) Q E s
theorem Cmp.keep {l : Addr} {h h' : Heap} {c : Value → Value → Bool} {S : Value → Prop} (C : Cmp l h c S) (k : ∀ b u, b ≠ l → h.get? b = some u → h'.get? b = some u) : Cmp l h' c S := fun s hs => C s fun b u hb hu => hs b u hb (k b u hb hu)
theorem swap_list (items : Array Value) (i j : Nat) (hi : i < items.size) (hj : j < items.size) : ((items.setIfInBounds i items[j]!).setIfInBounds j items[i]!).toList = swapL items.toList i j := by
  unfold swapL
  have e1 : items[i]! = items[i] := getElem!_pos items i hi
  have e2 : items[j]! = items[j] := getElem!_pos items j hj
  rw [e1, e2]
  have h1 : items.toList[i]? = some items[i] := by rw [Array.getElem?_toList]; exact Array.getElem?_eq_getElem hi
  have h2 : items.toList[j]? = some items[j] := by rw [Array.getElem?_toList]; exact Array.getElem?_eq_getElem hj
  rw [h1, h2]
  simp
theorem lt_list {c : Value → Value → Bool} (items : Array Value) (i j : Nat) (hi : i < items.size) (hj : j < items.size) : ltAt c items.toList i j = c items[i]! items[j]! := by
  unfold ltAt
  have e1 : items[i]! = items[i] := getElem!_pos items i hi
  have e2 : items[j]! = items[j] := getElem!_pos items j hj
  have h1 : items.toList[i]? = some items[i] := by rw [Array.getElem?_toList]; exact Array.getElem?_eq_getElem hi
  have h2 : items.toList[j]? = some items[j] := by rw [Array.getElem?_toList]; exact Array.getElem?_eq_getElem hj
  rw [h1, h2, e1, e2]
def sftS (l : Addr) (items : Array Value) (n : Nat) (res : Value) (c : Value → Value → Bool) (S : Value → Prop) (out : List Value) : PySem.Spec := fun A R s => s.heap.get? l = some (lobj items n) ∧ (∀ v ∈ items, S v) ∧ Cmp l s.heap c S ∧ A.in1.units < cLine ∧ items.size ≤ sizeLine ∧
  ∀ h' n', h'.get? l = some (lobj out.toArray n') → (∀ b u, b ≠ l → s.heap.get? b = some u → h'.get? b = some u) → R (.ok (.ret res)) { s with heap := h' }
theorem sftF (l : Addr) (res : Value) (c : Value → Value → Bool) (S : Value → Prop) : ∀ (m : Nat) (down : Bool) (pos top : Nat) (items : Array Value) (n : Nat), (if down = true then 2 * items.size + 1 - pos else pos) < m → pos < items.size →
    Meets (Builtin.«_heapq.heapify.sift» ⟨[.ref l, .bool false, .bool down, rawInt pos, rawInt top, res, rawInt (-1)], []⟩) (sftS l items n res c S (siftF c m down pos top items.toList)) := by
  intro m
  induction m with
  | zero =>
    intro down pos top items n hm hp prog w A R s h
    exact absurd hm (Nat.not_lt_zero _)
  | succ m ih =>
    intro down pos top items n hm hp prog w A R s h
    obtain ⟨hp, g, d, tk, os⟩ := s
    obtain ⟨hl, ha, hC, hu, hz, hR⟩ := h
    have get : ∀ i, i < items.size → items[i]? = some items[i]! := fun i hi => by rw [getElem!_pos items i hi]; exact Array.getElem?_eq_getElem hi
    have mem : ∀ i, i < items.size → S items[i]! := fun i hi => ha _ (by rw [getElem!_pos items i hi]; exact Array.getElem_mem hi)
    have cmp : ∀ {i j : Nat} {Q : Value → Shared → Prop} {E : Value → Shared → Prop}, i < items.size → j < items.size → (Q (.bool (ltAt c items.toList i j)) { heap := hp, gens := g, drawn := d, toks := tk, os := os }) → wpAny (model prog w) A.in1 (richCompare .Lt items[i]! items[j]!) Q E { heap := hp, gens := g, drawn := d, toks := tk, os := os } := fun {i j Q E} hi hj hq =>
      hC _ (fun _ _ _ z => z) (mem i hi) (mem j hj) hu (by rw [← lt_list (c := c) items i j hi hj]; exact hq)
    have nxt : ∀ (i j : Nat) (down' : Bool) (top' : Nat), i < items.size → j < items.size → (if down' = true then 2 * items.size + 1 - i else i) < m → siftF c m down' i top' (swapL items.toList i j) = siftF c (m + 1) down pos top items.toList →
        (Code.builtin "_heapq.heapify.sift" ⟨[.ref l, .bool false, .bool down', rawInt i, rawInt top', res, rawInt (-1)], []⟩).quiet = true ∧
        codeAny (model prog w) A (.builtin "_heapq.heapify.sift" ⟨[.ref l, .bool false, .bool down', rawInt i, rawInt top', res, rawInt (-1)], []⟩) R
          { heap := hp.update l (Obj.mapSeq fun xs => (xs.setIfInBounds i items[j]!).setIfInBounds j items[i]!), gens := g, drawn := d, toks := tk, os := os } := by
      intro i j down' top' hi hj hm' heq
      have sz : ((items.setIfInBounds i items[j]!).setIfInBounds j items[i]!).size = items.size := by simp
      have pm := swap_perm items i j hi hj
      have kp : ∀ b u, b ≠ l → hp.get? b = some u → (hp.update l (Obj.mapSeq fun xs => (xs.setIfInBounds i items[j]!).setIfInBounds j items[i]!)).get? b = some u := fun b u hb hu => (Heap.get?_update_ne _ _ _ _ hb).trans hu
      refine again_sift (ih down' i top' ((items.setIfInBounds i items[j]!).setIfInBounds j items[i]!) _ (by rw [sz]; exact hm') (by rw [sz]; exact hi)) ⟨swapped hl _, fun v hv => ?_, hC.keep kp, hu, by rw [sz]; exact hz, fun h' n' e k => hR h' n' ?_ fun b u hb hu => k b u hb (kp b u hb hu)⟩
      · exact ha v (Array.mem_toList_iff.mp (pm.mem_iff.mp (Array.mem_toList_iff.mpr hv)))
      · rw [swap_list items i j hi hj, heq] at e
        exact e
    have szs : ∀ (i j : Nat) (x y : Value), ((fun xs : Array Value => (xs.setIfInBounds i x).setIfInBounds j y) items).size ≤ sizeLine + 1 := fun i j x y => by simp; omega
    have hl' : ({ heap := hp, gens := g, drawn := d, toks := tk, os := os } : Shared).heap.get? l = some (lobj items n) := hl
    have len : items.toList.length = items.size := Array.length_toList
    cases down with
    | true =>
      rw [if_pos rfl] at hm
      wp_walk
      simp only [Int.toNat_natCast]
      by_cases c1 : pos < items.size / 2
      · wp_walk
        by_cases c2 : 2 * pos + 1 + 1 < items.size
        · wp_walk
          rw [get (2 * pos + 1) (by omega)]
          wp_walk
          rw [get (2 * pos + 1 + 1) (by omega)]
          wp_walk using (cmp (i := 2 * pos + 1) (j := 2 * pos + 1 + 1) (by omega) (by omega))
          cases hb : ltAt c items.toList (2 * pos + 1) (2 * pos + 1 + 1)
          · wp_walk
            rw [get (2 * pos + 1 + 1) (by omega)]
            wp_walk
            rw [get pos (by omega)]
            wp_walk using (wpAny_updateSeq hl' rfl (hz := hz) (_hz' := szs _ _ _ _))
            exact nxt (2 * pos + 1 + 1) pos true top (by omega) (by omega) (by rw [if_pos rfl]; omega) (by
              conv => rhs; unfold siftF
              rw [len, if_pos c1, if_pos ⟨c2, hb⟩])
          · wp_walk
            rw [get (2 * pos + 1) (by omega)]
            wp_walk
            rw [get pos (by omega)]
            wp_walk using (wpAny_updateSeq hl' rfl (hz := hz) (_hz' := szs _ _ _ _))
            exact nxt (2 * pos + 1) pos true top (by omega) (by omega) (by rw [if_pos rfl]; omega) (by
              conv => rhs; unfold siftF
              rw [len, if_pos c1, if_neg (by rw [hb]; simp)])
        · wp_walk
          rw [get (2 * pos + 1) (by omega)]
          wp_walk
          rw [get pos (by omega)]
          wp_walk using (wpAny_updateSeq hl' rfl (hz := hz) (_hz' := szs _ _ _ _))
          exact nxt (2 * pos + 1) pos true top (by omega) (by omega) (by rw [if_pos rfl]; omega) (by
            conv => rhs; unfold siftF
            rw [len, if_pos c1, if_neg (fun z => c2 z.1)])
      · wp_walk
        refine again_sift (ih false pos top items n (by rw [if_neg (by decide)]; omega) (by omega)) ⟨hl, ha, hC, hu, hz, fun h' n' e k => hR h' n' (by
          conv at e => rhs; rw [show siftF c m false pos top items.toList = siftF c (m + 1) true pos top items.toList from by
            conv => rhs; unfold siftF
            rw [len, if_neg c1]]
          exact e) k⟩
    | false =>
      rw [if_neg (by decide)] at hm
      wp_walk
      simp only [Int.toNat_natCast]
      have done : siftF c (m + 1) false pos top items.toList = items.toList → R (.ok (.ret res)) { heap := hp, gens := g, drawn := d, toks := tk, os := os } := fun e => hR hp n (by rw [e]; exact hl) fun _ _ _ z => z
      by_cases c1 : pos > top
      · wp_walk
        rw [get pos (by omega)]
        wp_walk
        rw [get ((pos - 1) / 2) (by omega)]
        wp_walk using (cmp (i := pos) (j := (pos - 1) / 2) (by omega) (by omega))
        cases hb : ltAt c items.toList pos ((pos - 1) / 2)
        · wp_walk
          exact done (by unfold siftF; rw [if_neg (by rw [hb]; simp)])
        · wp_walk
          rw [get ((pos - 1) / 2) (by omega)]
          wp_walk
          rw [get pos (by omega)]
          wp_walk using (wpAny_updateSeq hl' rfl (hz := hz) (_hz' := szs _ _ _ _))
          exact nxt ((pos - 1) / 2) pos false top (by omega) (by omega) (by rw [if_neg (by decide)]; omega) (by
            conv => rhs; unfold siftF
            rw [if_pos ⟨c1, hb⟩])
      · wp_walk
        exact done (by unfold siftF; rw [if_neg (fun z => c1 z.1)])
end Lh
set_option Elab.async false
set_option linter.all false
set_option maxRecDepth 100000
set_option maxHeartbeats 4000000
/-! heappush and heappop as rules of the layer, told exactly; ints and tuples of ints. -/
namespace Lh
open PySem PySem.Spec PyProof.Rows L2
def phS (l : Addr) (items : Array Value) (n : Nat) (x : Value) (c : Value → Value → Bool) (S : Value → Prop) : PySem.Spec := fun A R s => s.heap.get? l = some (lobj items n) ∧ (∀ v ∈ items, S v) ∧ S x ∧ Cmp l s.heap c S ∧ A.in1.units < cLine ∧ items.size + 1 ≤ sizeLine ∧
  ∀ h' n', h'.get? l = some (lobj (pushF c items.toList x).toArray n') → (∀ b u, b ≠ l → s.heap.get? b = some u → h'.get? b = some u) → R (.ok (.ret .none)) { s with heap := h' }
theorem phF (l : Addr) (items : Array Value) (n : Nat) (x : Value) (c : Value → Value → Bool) (S : Value → Prop) : Meets (Builtin.«_heapq.heappush» ⟨[.ref l, x], []⟩) (phS l items n x c S) := by
  intro prog w A R s h
  obtain ⟨hp, g, d, tk, os⟩ := s
  obtain ⟨hl, ha, hx, hC, hu, hz, hR⟩ := h
  have hl' : ({ heap := hp, gens := g, drawn := d, toks := tk, os := os } : Shared).heap.get? l = some (lobj items n) := hl
  have hT : ({ heap := hp, gens := g, drawn := d, toks := tk, os := os } : Shared).TypeIs (.ref l) "list" := ⟨_, hl, rfl⟩
  have hs := sub_list
  have hz0 : items.size ≤ sizeLine := by omega
  have hz1 : (items.push x).size ≤ sizeLine + 1 := by simp; omega
  have kp : ∀ b u, b ≠ l → hp.get? b = some u → (hp.update l (Obj.mapSeq fun xs => xs.push x)).get? b = some u := fun b u hb hu => (Heap.get?_update_ne _ _ _ _ hb).trans hu
  wp_walk using (wpAny_updateSeq hl' rfl (hz := hz0) (_hz' := hz1))
  have h2 : (hp.update l (Obj.mapSeq fun xs => xs.push x)).get? l = some (lobj (items.push x) _) := PySem.IsL.update hl fun xs => xs.push x
  wp_walk using (wpAny_seqItems h2 rfl)
  have e : (items.push x).size - 1 = items.size := by simp
  rw [e]
  refine again_sift (sftF l .none c S (items.size + 1) false items.size 0 (items.push x) _ (by rw [if_neg (by decide)]; omega) (by rw [Array.size_push]; omega)) ⟨h2, fun v hv => (Array.mem_push.mp hv).elim (ha v) fun q => by rw [q]; exact hx, hC.keep kp, hu, by rw [Array.size_push]; omega, fun h' n' e' k => hR h' n' ?_ fun b u hb hu => k b u hb (kp b u hb hu)⟩
  unfold pushF
  rw [Array.length_toList]
  rw [Array.toList_push] at e'
  exact e'
def ppS (l : Addr) (items : Array Value) (n : Nat) (c : Value → Value → Bool) (S : Value → Prop) : PySem.Spec := fun A R s => s.heap.get? l = some (lobj items n) ∧ (∀ v ∈ items, S v) ∧ Cmp l s.heap c S ∧ A.in1.units < cLine ∧ items.size ≤ sizeLine ∧ 0 < items.size ∧
  ∀ h' n' v rest, popF c items.toList = some (v, rest) → h'.get? l = some (lobj rest.toArray n') → (∀ b u, b ≠ l → s.heap.get? b = some u → h'.get? b = some u) → R (.ok (.ret v)) { s with heap := h' }
theorem ppF (l : Addr) (items : Array Value) (n : Nat) (c : Value → Value → Bool) (S : Value → Prop) : Meets (Builtin.«_heapq.heappop» ⟨[.ref l], []⟩) (ppS l items n c S) := by
  intro prog w A R s h
  obtain ⟨hp, g, d, tk, os⟩ := s
  obtain ⟨hl, ha, hC, hu, hz, h0, hR⟩ := h
  have hl' : ({ heap := hp, gens := g, drawn := d, toks := tk, os := os } : Shared).heap.get? l = some (lobj items n) := hl
  have hT : ({ heap := hp, gens := g, drawn := d, toks := tk, os := os } : Shared).TypeIs (.ref l) "list" := ⟨_, hl, rfl⟩
  have hs := sub_list
  obtain ⟨its, x, rfl⟩ : ∃ its x, items = Array.push its x := Array.eq_push_of_size_ne_zero (by omega)
  have kp : ∀ b u, b ≠ l → hp.get? b = some u → (hp.update l (Obj.mapSeq fun xs => xs.pop)).get? b = some u := fun b u hb hu => (Heap.get?_update_ne _ _ _ _ hb).trans hu
  have hz1 : ((fun xs : Array Value => xs.pop) (its.push x)).size ≤ sizeLine + 1 := by simp at hz ⊢; omega
  have eP : popF c (its.push x).toList = match its.toList with
    | [] => some (x, [])
    | a :: r => some (a, siftF c (2 * (r.length + 1) + 2) true 0 0 (x :: r)) := by
    unfold popF
    rw [Array.toList_push, List.getLast?_concat, List.dropLast_concat]
    dsimp only
    cases its.toList <;> rfl
  wp_walk using (wpAny_seqItems hl' rfl)
  have eb : (its.push x).back? = some x := by simp
  rw [eb]
  wp_walk using (wpAny_updateSeq hl' rfl (hz := hz) (_hz' := hz1))
  have h2 : (hp.update l (Obj.mapSeq fun xs => xs.pop)).get? l = some (lobj its (if (its.size == (its.push x).size) = true then n else n + 1)) := by
    have q := PySem.IsL.update hl fun xs => xs.pop
    simp only [Array.pop_push] at q
    exact q
  by_cases c0 : its.size = 0
  · have e0 : its = #[] := Array.eq_empty_of_size_eq_zero c0
    subst e0
    rw [if_pos (by simp)]
    wp_walk
    exact hR _ _ x [] eP h2 kp
  · rw [if_neg (by simp; exact fun q => c0 (by rw [q]; rfl))]
    have e1 : (its.push x)[0]? = some its[0]! := by
      rw [getElem!_pos its 0 (by omega), Array.getElem?_push_lt (by omega)]
    wp_walk
    rw [e1]
    have hz2 : its.size ≤ sizeLine := by simp at hz; omega
    have hz3 : ((fun xs : Array Value => xs.setIfInBounds 0 x) its).size ≤ sizeLine + 1 := by simp; omega
    have kp2 : ∀ b u, b ≠ l → hp.get? b = some u → ((hp.update l (Obj.mapSeq fun xs => xs.pop)).update l (Obj.mapSeq fun xs => xs.setIfInBounds 0 x)).get? b = some u := fun b u hb hu => (Heap.get?_update_ne _ _ _ _ hb).trans (kp b u hb hu)
    wp_walk using (wpAny_updateSeq h2 rfl (hz := hz2) (_hz' := hz3))
    have h3 : ((hp.update l (Obj.mapSeq fun xs => xs.pop)).update l (Obj.mapSeq fun xs => xs.setIfInBounds 0 x)).get? l = some (lobj (its.setIfInBounds 0 x) _) := PySem.IsL.update h2 fun xs => xs.setIfInBounds 0 x
    have hi : 0 < its.size := by omega
    have sz : (its.setIfInBounds 0 x).size = its.size := by simp
    refine again_sift (sftF l its[0]! c S (2 * its.size + 2) true 0 0 (its.setIfInBounds 0 x) _ (by rw [if_pos rfl, sz]; omega) (by rw [sz]; exact hi)) ⟨h3, fun v hv => ?_, hC.keep kp2, hu, by rw [sz]; exact hz2, fun h' n' e' k => ?_⟩
    · have : v ∈ its.push x := by
        rcases Array.getElem_of_mem hv with ⟨i, hi2, e⟩
        rw [sz] at hi2
        by_cases i0 : i = 0
        · subst i0
          simp at e
          rw [← e]
          simp
        · rw [Array.getElem_setIfInBounds_ne (by omega) (fun q => i0 q.symm)] at e
          rw [← e]
          exact Array.mem_push.mpr (.inl (Array.getElem_mem _))
      exact ha v this
    · refine hR h' n' its[0]! _ ?_ e' fun b u hb hu => k b u hb (kp2 b u hb hu)
      rw [eP]
      obtain ⟨ls⟩ := its
      cases ls with
      | nil => simp at hi
      | cons a r => simp
/-! ### values that can be laid side by side -/
def intsV : List V → List Int
  | [] => []
  | .int i :: r => i :: intsV r
  | _ :: r => 0 :: intsV r
theorem intsV_map : ∀ ns : List Int, intsV (ns.map V.int) = ns
  | [] => rfl
  | n :: ns => by rw [List.map_cons]; show n :: intsV _ = _; rw [intsV_map ns]
def ltV (H : Hp) : V → V → Bool
  | .int i, .int j => decide (i < j)
  | .ref a, .ref b => (match H a, H b with
    | some (.tup xs), some (.tup ys) => HT.lexLt (intsV xs) (intsV ys)
    | _, _ => false)
  | _, _ => false
def IntV (v : V) : Prop := ∃ i, v = .int i
def TupV (H : Hp) (v : V) : Prop := ∃ (t : Addr) (ns : List Int), v = .ref t ∧ H t = some (.tup (ns.map V.int))
/-- all ints, or all tuples of ints -/
def OrdV (H : Hp) (xs : List V) : Prop := (∀ y ∈ xs, IntV y) ∨ ∀ y ∈ xs, TupV H y
def backU : Value → V
  | .int i _ => .int i
  | .ref a => .ref a
  | _ => .non
theorem backU_of {H : Hp} {v : V} {u : Value} (h : IntV v ∨ TupV H v) (r : RelV v u) : backU u = v := by
  rcases h with ⟨i, rfl⟩ | ⟨t, ns, rfl, _⟩
  · obtain ⟨t, rfl⟩ := r; rfl
  · obtain rfl : u = Value.ref t := r; rfl
def rPushF : List V → Hp → VK → Prop := fun vs H Q => ∃ (l : Addr) (xs : List V) (x : V), vs = [.ref l, x] ∧ H l = some (.lst xs) ∧ xs.length < sizeLine ∧ OrdV H (xs ++ [x]) ∧ Q .non (upd H l (.lst (pushF (ltV H) xs x)))
def rPopF : List V → Hp → VK → Prop := fun vs H Q => ∃ (l : Addr) (xs : List V), vs = [.ref l] ∧ H l = some (.lst xs) ∧ OrdV H xs ∧ ∃ v ys, popF (ltV H) xs = some (v, ys) ∧ Q v (upd H l (.lst ys))
section
variable {X : Cx} {pins : List (Addr × Obj)} {σ : L2.St} {H : Hp} {s : Shared}
theorem isTup_keep {h h' : Heap} {l t : Addr} {its : Array Value} {o : Obj} (hl : h.get? l = some o) (hc : o.cls = .type "list") (k : ∀ b u, b ≠ l → h.get? b = some u → h'.get? b = some u) (ht : IsTup h t its) : IsTup h' t its := by
  obtain ⟨u, hu, cu, m, hd⟩ := ht
  refine ⟨u, k _ _ (fun q => ?_) hu, cu, m, hd⟩
  rw [q, hl] at hu
  cases hu
  rw [hc] at cu
  exact absurd (Value.type.inj cu) (by decide)
/-- what the values of an ordered list are in the state, and how they compare there -/
theorem cmp_of (I : Inv X pins σ H s) {l : Addr} {o : Obj} (hl : s.heap.get? l = some o) (hc : o.cls = .type "list") {xs : List V} {us : List Value} (rv : Vals xs us) (ho : OrdV H xs) :
    ∃ S : Value → Prop, (∀ u ∈ us, S u) ∧ Cmp l s.heap (fun u u' => ltV H (backU u) (backU u')) S := by
  rcases ho with ho | ho
  · refine ⟨fun u => ∃ (i : Int) (t : Tok), u = .int i t, fun u hu => ?_, fun s' k prog w A E x y Q hx hy hu hq => ?_⟩
    · obtain ⟨j, hj⟩ := List.getElem_of_mem hu
      obtain ⟨hj, e⟩ := hj
      have hjx : j < xs.length := by rw [rv.length]; exact hj
      obtain ⟨w, hw, r⟩ := rv.get (List.getElem?_eq_getElem hjx)
      obtain ⟨i, hi⟩ := ho _ (List.getElem_mem hjx)
      rw [List.getElem?_eq_getElem hj, e] at hw
      cases hw
      rw [hi] at r
      obtain ⟨t, rfl⟩ := r
      exact ⟨i, t, rfl⟩
    · obtain ⟨i, t, rfl⟩ := hx
      obtain ⟨j, t', rfl⟩ := hy
      exact PySem.P.lt_int hq
  · refine ⟨fun u => ∃ (t : Addr) (its : Array Value) (ns : List Int), u = .ref t ∧ IsTup s.heap t its ∧ IntsAre its.toList ns ∧ H t = some (.tup (ns.map V.int)), fun u hu => ?_, fun s' k prog w A E x y Q hx hy hu hq => ?_⟩
    · obtain ⟨j, hj⟩ := List.getElem_of_mem hu
      obtain ⟨hj, e⟩ := hj
      have hjx : j < xs.length := by rw [rv.length]; exact hj
      obtain ⟨w, hw, r⟩ := rv.get (List.getElem?_eq_getElem hjx)
      obtain ⟨t, ns, hi, ht⟩ := ho _ (List.getElem_mem hjx)
      rw [List.getElem?_eq_getElem hj, e] at hw
      cases hw
      rw [hi] at r
      obtain rfl : u = Value.ref t := r
      obtain ⟨its, r2, h3, _⟩ := I.tuple (SqT.of ht)
      exact ⟨t, its.toArray, ns, rfl, h3, intsAre_of r2, ht⟩
    · obtain ⟨t, its, ns, rfl, h1, h2, h3⟩ := hx
      obtain ⟨t', its', ns', rfl, h4, h5, h6⟩ := hy
      refine lt_pairs (isTup_keep hl hc k h1) (isTup_keep hl hc k h4) h2 h5 hu ?_
      have e : ltV H (backU (.ref t)) (backU (.ref t')) = HT.lexLt ns ns' := by
        show (match H t, H t' with
          | some (.tup xs), some (.tup ys) => HT.lexLt (intsV xs) (intsV ys)
          | _, _ => false) = _
        rw [h3, h6]
        show HT.lexLt (intsV _) (intsV _) = _
        rw [intsV_map, intsV_map]
      rw [← e]
      exact hq
theorem vals_paired {xs : List V} {us : List Value} (rv : Vals xs us) (ho : OrdV H xs) : Paired (fun v u => RelV v u ∧ backU u = v) xs us := by
  have key : ∀ y ∈ xs, IntV y ∨ TupV H y := fun y hy => ho.elim (fun h => .inl (h y hy)) fun h => .inr (h y hy)
  clear ho
  induction rv with
  | nil => exact .nil
  | cons r t ih => exact .cons ⟨r, backU_of (key _ List.mem_cons_self) r⟩ (ih fun y hy => key y (List.mem_cons_of_mem _ hy))
theorem paired_vals {xs : List V} {us : List Value} (h : Paired (fun v u => RelV v u ∧ backU u = v) xs us) : Vals xs us := by
  induction h with
  | nil => exact .nil
  | cons r t ih => exact .cons r.1 ih
theorem back_lt {H : Hp} : ∀ (a b : V) (a' b' : Value), (RelV a a' ∧ backU a' = a) → (RelV b b' ∧ backU b' = b) → ltV H a b = ltV H (backU a') (backU b') := fun a b a' b' h1 h2 => by rw [h1.2, h2.2]
theorem list_write (I : Inv X pins σ H s) {l : Addr} {xs ys : List V} {us : List Value} {h' : Heap} {n' t' : Nat} (hH : H l = some (.lst xs)) (e : h'.get? l = some (lobj us.toArray n')) (k : ∀ b u, b ≠ l → s.heap.get? b = some u → h'.get? b = some u) (r : Vals ys us) (hz : ys.length ≤ sizeLine) :
    Inv X pins σ (upd H l (.lst ys)) { s with heap := h', toks := t' } := by
  refine I.write (x := l) (e := l) (by rw [hH]; exact trivial) (.inl rfl) k ⟨_, e⟩ ⟨hz, us, n', r, ?_⟩
  rw [e]
theorem call_pushF (hu : X.A.in1.units < cLine) : CallR X (.builtin "_heapq.heappush") rPushF := by
  intro pins s σ H vs us Q I r h
  obtain ⟨l, xs, x, rfl, hl, hz, ho, q⟩ := h
  obtain ⟨u, v, rfl, ru, rv⟩ := vals2 r
  obtain rfl : u = Value.ref l := ru
  obtain ⟨z, its, n, ri, hlen, e⟩ := I.lstM hl
  have all : Vals (xs ++ [x]) (its ++ [v]) := ri.append (.cons rv .nil)
  obtain ⟨S, hS, hC⟩ := cmp_of I e rfl all ho
  have hx : OrdV H xs := ho.imp (fun h y hy => h y (List.mem_append_left _ hy)) fun h y hy => h y (List.mem_append_left _ hy)
  refine call_function_meets kind_push plain_push entry_push (args_push _ _) (phF l its.toArray n v _ S) ⟨e, fun w hw => hS w (List.mem_append_left _ (by simpa using hw)), hS v (by simp), hC, hu, by rw [List.size_toArray]; omega, fun h' n' e' k => ?_⟩
  have hb : backU v = x := by
    refine backU_of (H := H) ?_ rv
    exact ho.elim (fun h => .inl (h x (by simp))) fun h => .inr (h x (by simp))
  have pr := pushF_rel (lt := ltV H) (lt' := fun u u' => ltV H (backU u) (backU u')) back_lt (vals_paired ri hx) (x := x) (y := v) ⟨rv, hb⟩
  have hz2 : (pushF (ltV H) xs x).length ≤ sizeLine := by
    have := (pushF_perm (ltV H) xs x).length_eq
    rw [this, List.length_cons]; omega
  exact ⟨.non, _, list_write (t' := s.toks) I hl e' k (paired_vals pr) hz2, rfl, q⟩
theorem call_popF (hu : X.A.in1.units < cLine) : CallR X (.builtin "_heapq.heappop") rPopF := by
  intro pins s σ H vs us Q I r h
  obtain ⟨l, xs, rfl, hl, ho, x, ys, hp, q⟩ := h
  obtain ⟨u, rfl, ru⟩ := vals1 r
  obtain rfl : u = Value.ref l := ru
  obtain ⟨z, its, n, ri, hlen, e⟩ := I.lstM hl
  obtain ⟨S, hS, hC⟩ := cmp_of I e rfl ri ho
  have h0 : 0 < xs.length := by
    cases xs with
    | nil => cases hp
    | cons _ _ => simp
  refine call_function_meets kind_pop plain_pop entry_pop (args_pop _) (ppF l its.toArray n _ S) ⟨e, fun w hw => hS w (by simpa using hw), hC, hu, by rw [List.size_toArray]; omega, by rw [List.size_toArray]; omega, fun h' n' v rest hv e' k => ?_⟩
  obtain ⟨x', ys', e2, rx, ry⟩ := popF_rel (lt := ltV H) (lt' := fun u u' => ltV H (backU u) (backU u')) back_lt (vals_paired ri ho) (by simpa using hv)
  rw [hp] at e2
  cases e2
  have hz2 : ys.length ≤ sizeLine := by
    have := (popF_perm hp).length_eq
    simp at this
    omega
  exact ⟨x, _, list_write (t' := s.toks) I hl e' k (paired_vals ry) hz2, rx.1, q⟩
end
end Lh
set_option Elab.async false
set_option linter.all false
set_option maxRecDepth 100000
set_option maxHeartbeats 4000000
/-! Heaps: x = heappop(q), heappush(q, e). -/
namespace Lh.P
open PySem PySem.Spec PyProof.Rows L2 _root_.SX
def intsP : List PV → List Int
  | [] => []
  | .int i :: r => i :: intsP r
  | _ :: r => 0 :: intsP r
def ltP : PV → PV → Bool
  | .int i, .int j => decide (i < j)
  | .tup xs, .tup ys => HT.lexLt (intsP xs) (intsP ys)
  | _, _ => false
def isI : PV → Bool
  | .int _ => true
  | _ => false
def isTI : PV → Bool
  | .tup xs => xs.all isI
  | _ => false
/-- all ints, or all tuples of ints -/
def ordP (xs : List PV) : Bool := xs.all isI || xs.all isTI
section
variable {K : PySem.W.Frag} {H0 H : Hp}
theorem reps_ints : ∀ {xs : List PV} {vs : List L2.V}, xs.all isI = true → Reps K H0 xs vs → ∃ ns : List Int, intsP xs = ns ∧ vs = ns.map V.int
  | [], [], _, _ => ⟨[], rfl, rfl⟩
  | [], _ :: _, _, z => False.elim z
  | _ :: _, [], _, z => False.elim z
  | x :: xs, v :: vs, h, ⟨r, rs⟩ => by
    rw [List.all_cons, Bool.and_eq_true] at h
    obtain ⟨ns, e1, e2⟩ := reps_ints h.2 rs
    cases x with
    | int i => exact ⟨i :: ns, by show i :: intsP xs = _; rw [e1], by rw [show v = .int i from r, e2]; rfl⟩
    | _ => exact absurd (show (false : Bool) = true from h.1) (by decide)
/-- a value that can be laid side by side, and what it says -/
def OkR (K : PySem.W.Frag) (H0 : Hp) (x : PV) (v : L2.V) : Prop := Rep K H0 x v ∧ (isI x = true ∨ isTI x = true)
theorem okR_lt (sm : Same H0 H) : ∀ (a b : PV) (a' b' : L2.V), OkR K H0 a a' → OkR K H0 b b' → ltP a b = ltV H a' b' := by
  have tup : ∀ {x : PV} {v : L2.V}, OkR K H0 x v → isTI x = true → ∃ xs t ns, x = .tup xs ∧ v = .ref t ∧ H t = some (.tup (ns.map V.int)) ∧ intsP xs = ns := by
    intro x v h hx
    cases x with
    | tup xs =>
      obtain ⟨t, vs, rfl, ht, rs⟩ := h.1
      obtain ⟨ns, e1, e2⟩ := reps_ints hx rs
      exact ⟨xs, t, ns, rfl, rfl, by rw [sm _ _ ht, e2], e1⟩
    | _ => cases hx
  have int : ∀ {x : PV} {v : L2.V}, OkR K H0 x v → isI x = true → ∃ i, x = .int i ∧ v = .int i := by
    intro x v h hx
    cases x with
    | int i => exact ⟨i, rfl, h.1⟩
    | _ => cases hx
  intro a b a' b' h1 h2
  rcases h1.2 with ha | ha <;> rcases h2.2 with hb | hb
  · obtain ⟨i, rfl, rfl⟩ := int h1 ha
    obtain ⟨j, rfl, rfl⟩ := int h2 hb
    rfl
  · obtain ⟨i, rfl, rfl⟩ := int h1 ha
    obtain ⟨xs, t, ns, rfl, rfl, _, _⟩ := tup h2 hb
    rfl
  · obtain ⟨xs, t, ns, rfl, rfl, _, _⟩ := tup h1 ha
    obtain ⟨j, rfl, rfl⟩ := int h2 hb
    rfl
  · obtain ⟨xs, t, ns, rfl, rfl, e1, e2⟩ := tup h1 ha
    obtain ⟨ys, u, ms, rfl, rfl, e3, e4⟩ := tup h2 hb
    show HT.lexLt _ _ = (match H t, H u with
      | some (.tup xs), some (.tup ys) => HT.lexLt (Lh.intsV xs) (Lh.intsV ys)
      | _, _ => false)
    rw [e1, e3]
    show _ = HT.lexLt (Lh.intsV _) (Lh.intsV _)
    rw [Lh.intsV_map, Lh.intsV_map, e2, e4]
theorem ord_paired {xs : List PV} {vs : List L2.V} (h : ordP xs = true) (rs : Reps K H0 xs vs) : Paired (OkR K H0) xs vs := by
  have key : ∀ x ∈ xs, isI x = true ∨ isTI x = true := fun x hx => by
    unfold ordP at h
    rw [Bool.or_eq_true] at h
    exact h.imp (fun h => List.all_eq_true.mp h x hx) fun h => List.all_eq_true.mp h x hx
  clear h
  induction xs generalizing vs with
  | nil => cases vs with
    | nil => exact .nil
    | cons _ _ => exact False.elim rs
  | cons x xs ih => cases vs with
    | nil => exact False.elim rs
    | cons v vs => exact .cons ⟨rs.1, key x List.mem_cons_self⟩ (ih rs.2 fun y hy => key y (List.mem_cons_of_mem _ hy))
theorem paired_reps {xs : List PV} {vs : List L2.V} (h : Paired (OkR K H0) xs vs) : Reps K H0 xs vs := by
  induction h with
  | nil => trivial
  | cons r t ih => exact ⟨r.1, ih⟩
theorem paired_flip {α β : Type} {R : α → β → Prop} {xs : List α} {ys : List β} (h : Paired R xs ys) : Paired (fun y x => R x y) ys xs := by
  induction h with
  | nil => exact .nil
  | cons r t ih => exact .cons r ih
theorem ord_V (sm : Same H0 H) {xs : List PV} {vs : List L2.V} (h : ordP xs = true) (rs : Reps K H0 xs vs) : Lh.OrdV H vs := by
  unfold ordP at h
  rw [Bool.or_eq_true] at h
  have mem : ∀ {v}, v ∈ vs → ∃ x ∈ xs, Rep K H0 x v := fun {v} hv => by
    obtain ⟨j, hj, e⟩ := List.getElem_of_mem hv
    obtain ⟨x, h1, h2⟩ := rs.getV (j := j) (v := v) (by rw [← e]; exact List.getElem?_eq_getElem hj)
    exact ⟨x, List.mem_of_getElem? h1, h2⟩
  refine h.imp (fun h y hy => ?_) fun h y hy => ?_
  · obtain ⟨x, hx, r⟩ := mem hy
    have := List.all_eq_true.mp h x hx
    cases x with
    | int i => exact ⟨i, r⟩
    | _ => cases this
  · obtain ⟨x, hx, r⟩ := mem hy
    have hz := List.all_eq_true.mp h x hx
    cases x with
    | tup zs =>
      obtain ⟨t, us, rfl, ht, rs2⟩ := r
      obtain ⟨ns, e1, e2⟩ := reps_ints hz rs2
      exact ⟨t, ns, rfl, by rw [sm _ _ ht, e2]⟩
    | _ => cases hz
end
section
variable {X : Cx} {W : WX} {M : Md} {V O O' O1 T : List Nat} {e a b c : Expr} {es : List Expr} {st : Stmt} {pos p p2 : Pos} {x : Str}
/-- g = heappop(q): the slot's row, what is taken goes where g says -/
def dPop (i : Nat) (g : PV → Env → Option Env) : Env → Out := fun Γ => match Γ[i]? with
  | some (some (.lst xs)) => if ordP xs = true then (match Lh.popF ltP xs with
    | some (y, ys) => (match g y (Γ.set i (some (.lst ys))) with
      | some Γ' => .next Γ'
      | none => .bad)
    | none => .bad) else .bad
  | _ => .bad
theorem s_pop {i : Nat} {t : TG} {g : PV → Env → Option Env} {p3 : Pos} (hm : X.mg x = some (.builtin "_heapq.heappop")) (hu : X.A.in1.units < cLine) (hv : PE X a (tVar i)) (gt : GT X.K T t g) (ps : ∀ te, PE X (.Call (.Name x p) [a] [] p3) te → PS X st (tAsg te t)) (hi : i ∈ O) (hT : ∀ j ∈ T, j ∉ O) (hg : Gl X x := by rfl) (hdb : (x == ("__debug__" : Str)) = false := by decide)
    (hst : starEach [a] X.env = (false, eval a X.env) :: starEach [] X.env := by rfl) : SX X W M O O st (dPop i g) := fun Z Γ σ H0 H D io E pp => by
  refine PS.to (ps _ (pe_callBfun (Lh.call_popF hu) hg hm (pa_cons hv pa_nil hst) hdb hst rfl)) ?_
  have pp : PostS X.K W Z M O D (match Γ[i]? with
    | some (some (.lst xs)) => if ordP xs = true then (match Lh.popF ltP xs with
      | some (y, ys) => (match g y (Γ.set i (some (.lst ys))) with
        | some Γ' => .next Γ'
        | none => .bad)
      | none => .bad) else .bad
    | _ => .bad) := pp
  cases hgi : Γ[i]? with
  | none => rw [hgi] at pp; exact False.elim pp
  | some o =>
    cases o with
    | none => rw [hgi] at pp; exact False.elim pp
    | some q =>
      cases q with
      | lst xs =>
        simp only [hgi] at pp
        split at pp
        · rename_i ho
          obtain ⟨ρ, h1, h2⟩ := E.own
          obtain ⟨k1, ⟨vs, k2, rs⟩, k3, k4, k5⟩ := h1 i hi _ hgi rfl
          cases hp : Lh.popF ltP xs with
          | none => rw [hp] at pp; exact False.elim pp
          | some w =>
            obtain ⟨y, ys⟩ := w
            rw [hp] at pp
            dsimp only at pp
            obtain ⟨v, ws, e2, r1, r2⟩ := Lh.popF_rel (R := fun v x => OkR X.K H0 x v) (lt := Lh.ltV H) (lt' := ltP) (fun a b a' b' h1 h2 => (okR_lt E.c a' b' a b h1 h2).symm) (xs := vs) (ys := xs) (paired_flip (ord_paired ho rs)) hp
            have rys : Reps X.K H0 ys ws := paired_reps (paired_flip r2)
            refine ⟨_, k1, ρ i, vs, rfl, k2, ord_V E.c ho rs, v, ws, e2, ?_⟩
            have E2 := E.change (p := .lst ys) (o := .lst ws) hi hgi rfl k1 ⟨ws, upd_same, rys⟩
            cases hg2 : g y (Γ.set i (some (.lst ys))) with
            | none => rw [hg2] at pp; exact False.elim pp
            | some Γ' =>
              rw [hg2] at pp
              refine gt y v (Γ.set i (some (.lst ys))) σ H0 _ _ Γ' r1.1 E2.c hg2 fun u hu e => ?_
              have E3 := E2.puts (u := u) fun q hq => ⟨hT _ (hu q hq).1, (hu q hq).2⟩
              rw [← e] at E3
              exact pp _ _ _ E3
        · exact False.elim pp
      | _ => rw [hgi] at pp; exact False.elim pp
/-- heappush(q, e) -/
def dPush (i : Nat) (f : Env → Rs PV) : Env → Out := fun Γ => match Γ[i]? with
  | some (some (.lst _)) => outE (f Γ) Γ fun y => match Γ[i]? with
    | some (some (.lst xs)) => if ordP (xs ++ [y]) = true ∧ xs.length < 16000000 then .next (Γ.set i (some (.lst (Lh.pushF ltP xs y)))) else .bad
    | _ => .bad
  | _ => .bad
theorem s_push {i : Nat} {f : Env → Rs PV} {p3 pos' : Pos} (hm : X.mg x = some (.builtin "_heapq.heappush")) (hu : X.A.in1.units < cLine) (hv : PE X a (tVar i)) (he : EX X W V e f) (hi : i ∈ O) (hV : ∀ j ∈ V, j ∉ O) (ok : OkO M O) (hg : Gl X x := by rfl) (hdb : (x == ("__debug__" : Str)) = false := by decide)
    (hst : starEach [a, e] X.env = (false, eval a X.env) :: starEach [e] X.env := by rfl) (hst2 : starEach [e] X.env = (false, eval e X.env) :: starEach [] X.env := by rfl) (hpl : (backTo p3 (starEach [e] X.env)).any (·.1) = false := by rfl) : SX X W M O O (.Expr (.Call (.Name x p) [a, e] [] p3) pos') (dPush i f) := fun Z Γ σ H0 H D io E pp => by
  refine PS.to (ps_expr (pe_callBfun (Lh.call_pushF hu) hg hm (pa_cons hv (pa_cons pe_of pa_nil hst2) hst) hdb hst hpl)) ?_
  have pp : PostS X.K W Z M O D (match Γ[i]? with
    | some (some (.lst _)) => outE (f Γ) Γ fun y => match Γ[i]? with
      | some (some (.lst xs)) => if ordP (xs ++ [y]) = true ∧ xs.length < 16000000 then .next (Γ.set i (some (.lst (Lh.pushF ltP xs y)))) else .bad
      | _ => .bad
    | _ => .bad) := pp
  cases hgi : Γ[i]? with
  | none => rw [hgi] at pp; exact False.elim pp
  | some o =>
    cases o with
    | none => rw [hgi] at pp; exact False.elim pp
    | some q =>
      cases q with
      | lst xs =>
        simp only [hgi] at pp
        obtain ⟨ρ, h1, h2⟩ := E.own
        obtain ⟨k1, ⟨vs, k2, rs⟩, k3, k4, k5⟩ := h1 i hi _ hgi rfl
        refine ⟨_, k1, ?_⟩
        refine lend_post (V := V) (R := fun _ H => tOf X e σ H fun v H1 => Lh.rPushF [.ref (ρ i), v] H1 fun _ H2 => D.nx σ H2) io ok E pp (fun j => j ∈ V) (fun j hj _ => hj) (fun H0p sh sm q => he Γ σ H0p H _ sh sm q) fun y H0' H' _ pn L v rv => ?_
        obtain ⟨sH, _, H0'', E2, s1, _, _, aw⟩ := L
        split at pn
        · rename_i hc
          have ry : Rep X.K H0'' y v := aw y v (fun l hl hv q hq => absurd hl (hV l hv)) rv
          have all : Reps X.K H0'' (xs ++ [y]) (vs ++ [v]) := (Reps.mono s1 _ _ rs).app ⟨ry, trivial⟩
          have hx : ordP xs = true := by
            have := hc.1
            unfold ordP at this ⊢
            rw [List.all_append, List.all_append] at this
            rw [Bool.or_eq_true, Bool.and_eq_true, Bool.and_eq_true] at this
            rw [Bool.or_eq_true]
            exact this.imp (·.1) (·.1)
          have hy : isI y = true ∨ isTI y = true := by
            have := hc.1
            unfold ordP at this
            rw [List.all_append, List.all_append] at this
            simp at this
            exact this.imp (·.2) (·.2)
          have pr := Lh.pushF_rel (R := fun v x => OkR X.K H0'' x v) (lt := Lh.ltV H') (lt' := ltP) (fun a b a' b' h1 h2 => (okR_lt E2.c a' b' a b h1 h2).symm) (xs := vs) (ys := xs) (paired_flip (ord_paired hx (Reps.mono s1 _ _ rs))) (x := v) (y := y) ⟨ry, hy⟩
          have rys : Reps X.K H0'' (Lh.pushF ltP xs y) (Lh.pushF (Lh.ltV H') vs v) := paired_reps (paired_flip pr)
          refine ⟨ρ i, vs, v, rfl, sH _ _ k2, by rw [rs.len, sizeLine_eq]; have := hc.2; omega, ord_V E2.c hc.1 all, ?_⟩
          exact pn _ _ _ (E2.change hi hgi rfl k1 ⟨_, upd_same, rys⟩)
        · exact False.elim pn
      | _ => rw [hgi] at pp; exact False.elim pp
end
end Lh.P
set_option Elab.async false
set_option linter.all false
set_option maxRecDepth 100000
set_option maxHeartbeats 4000000
/-! min, max of one row; max of a dict's values; the place of an item; xs[i] += e; tuple(xs). -/
namespace Lh.P
open PySem PySem.Spec PyProof.Rows L2 _root_.SX
open PySem.W (AlikeAll)
theorem foldl_min : ∀ (ns : List Int) (n : Int), (ns.foldl min n ∈ n :: ns) ∧ ∀ y ∈ n :: ns, ns.foldl min n ≤ y
  | [], n => ⟨by simp, fun y hy => by simp at hy; simp [hy]⟩
  | a :: l, n => by
    obtain ⟨h1, h2⟩ := foldl_min l (min n a)
    rw [List.foldl_cons]
    refine ⟨?_, fun y hy => ?_⟩
    · rcases List.mem_cons.mp h1 with e | e
      · rw [e]
        by_cases q : n ≤ a
        · rw [Int.min_eq_left q]; simp
        · rw [Int.min_eq_right (by omega)]; simp
      · simp [e]
    · have h3 := h2 (min n a) List.mem_cons_self
      rcases List.mem_cons.mp hy with rfl | hy
      · omega
      · rcases List.mem_cons.mp hy with rfl | hy
        · omega
        · exact h2 y (List.mem_cons_of_mem _ hy)
/-- the ints of a row, all ints -/
def intRow : List PV → Option (List Int)
  | [] => some []
  | .int i :: r => (intRow r).map (i :: ·)
  | _ => none
def rowOf : PV → Option (List PV)
  | .lst xs => some xs
  | .tup xs => some xs
  | .tun xs => some xs
  | _ => none
section
variable {K : PySem.W.Frag} {H0 H : Hp}
theorem intRow_rep : ∀ {xs : List PV} {vs : List L2.V} {ns : List Int}, intRow xs = some ns → Reps K H0 xs vs → vs = ns.map V.int
  | [], [], ns, h, _ => by cases h; rfl
  | [], _ :: _, _, _, z => False.elim z
  | _ :: _, [], _, _, z => False.elim z
  | x :: xs, v :: vs, ns, h, ⟨r, rs⟩ => by
    cases x with
    | int i =>
      have h : (intRow xs).map (i :: ·) = some ns := h
      obtain ⟨ms, h1, rfl⟩ := Option.map_eq_some_iff.mp h
      rw [List.map_cons, intRow_rep h1 rs, show v = .int i from r]
    | _ => cases h
theorem rowOf_rep {p : PV} {xs : List PV} {v : L2.V} (h : rowOf p = some xs) (r : Rep K H0 p v) (sm : Same H0 H) : ∃ a vs, v = .ref a ∧ (SqL K H a vs ∨ SqT K H a vs) ∧ Reps K H0 xs vs := by
  cases p with
  | lst ys => cases h; obtain ⟨a, vs, rfl, h, rs⟩ := r; exact ⟨a, vs, rfl, .inl (SqL.of (sm _ _ h)), rs⟩
  | tup ys => cases h; obtain ⟨a, vs, rfl, h, rs⟩ := r; exact ⟨a, vs, rfl, .inr (SqT.of (sm _ _ h)), rs⟩
  | tun ys => cases h; obtain ⟨a, vs, rfl, ⟨o, h, _⟩, rs⟩ := r; exact ⟨a, vs, rfl, .inr (.inl (.inr ⟨o, sm _ _ h⟩)), rs⟩
  | _ => cases h
end
/-- min or max of a row of ints, one at least -/
def rBest (K : PySem.W.Frag) (f : Int → Int → Int) : List V → Hp → VK → Prop := fun vs H Q => ∃ (a : Addr) (n : Int) (ns : List Int), vs = [.ref a] ∧ (SqL K H a ((n :: ns).map V.int) ∨ SqT K H a ((n :: ns).map V.int)) ∧ Q (.int (ns.foldl f n)) H
section
variable {X : Cx}
theorem cr_min1 (hc : X.calm = true) (hu : X.A.units + 1 < cLine) : CallR X (.builtin "min") (rBest X.K min) := by
  intro pins s σ H vs us Q I r h
  obtain ⟨a, n, ns, rfl, hs, q⟩ := h
  rw [Vals.ref1 r]
  have fin : ∀ {v : Value} {h' : Heap} {tk : Nat} {bs : List Addr}, Reads h' v (PySem.W.minD (.int n) (ns.map .int)) bs → (∀ b o, s.heap.get? b = some o → h'.get? b = some o) → EP X pins σ Q v { s with heap := h', toks := tk } := fun {v h' tk bs} rd k => by
    rw [PySem.W.minD_ints] at rd
    cases rd with
    | int m t => exact ⟨.int _, H, I.kept k, ⟨t, rfl⟩, q⟩
  have al : AlikeAll (PyData.int n :: ns.map PyData.int) := Lh.alike_ints (n :: ns)
  have dp : PyData.depthAll (PyData.int n :: ns.map PyData.int) = 0 := Lh.depth_ints (n :: ns)
  rcases hs with hs | hs
  · obtain ⟨its, rv, hl, _⟩ := I.list hs
    exact PySem.W.min_list_data (x := .int n) (xs := ns.map .int) (as := []) (I.ok.hd hc) hl.isList (Lh.reads_ints (ns := n :: ns) (by simpa using rv.ints)) al (by rw [dp]; exact hu) fun i v h' tk bs _ rd k => fin rd k
  · obtain ⟨its, rv, hl, _⟩ := I.tuple hs
    exact PySem.W.min_tuple_data (x := .int n) (xs := ns.map .int) (as := []) (I.ok.hd hc) hl (Lh.reads_ints (ns := n :: ns) (by simpa using rv.ints)) al (by rw [dp]; exact hu) fun i v h' tk bs _ rd k => fin rd k
theorem cr_max1 (hc : X.calm = true) (hu : X.A.units + 1 < cLine) : CallR X (.builtin "max") (rBest X.K max) := by
  intro pins s σ H vs us Q I r h
  obtain ⟨a, n, ns, rfl, hs, q⟩ := h
  rw [Vals.ref1 r]
  have fin : ∀ {v : Value} {h' : Heap} {tk : Nat} {bs : List Addr}, Reads h' v (PySem.W.maxD (.int n) (ns.map .int)) bs → (∀ b o, s.heap.get? b = some o → h'.get? b = some o) → EP X pins σ Q v { s with heap := h', toks := tk } := fun {v h' tk bs} rd k => by
    rw [PySem.W.maxD_ints] at rd
    cases rd with
    | int m t => exact ⟨.int _, H, I.kept k, ⟨t, rfl⟩, q⟩
  have al : AlikeAll (PyData.int n :: ns.map PyData.int) := Lh.alike_ints (n :: ns)
  have dp : PyData.depthAll (PyData.int n :: ns.map PyData.int) = 0 := Lh.depth_ints (n :: ns)
  rcases hs with hs | hs
  · obtain ⟨its, rv, hl, _⟩ := I.list hs
    exact PySem.W.max_list_data (x := .int n) (xs := ns.map .int) (as := []) (I.ok.hd hc) hl.isList (Lh.reads_ints (ns := n :: ns) (by simpa using rv.ints)) al (by rw [dp]; exact hu) fun i v h' tk bs _ rd k => fin rd k
  · obtain ⟨its, rv, hl, _⟩ := I.tuple hs
    exact PySem.W.max_tuple_data (x := .int n) (xs := ns.map .int) (as := []) (I.ok.hd hc) hl (Lh.reads_ints (ns := n :: ns) (by simpa using rv.ints)) al (by rw [dp]; exact hu) fun i v h' tk bs _ rd k => fin rd k
def pBest (f : Int → Int → Int) : List PV → Rs PV
  | [p] => match (rowOf p).bind intRow with
    | some (n :: ns) => .ok (.int (ns.foldl f n))
    | _ => .bad
  | _ => .bad
theorem best_of {f : Int → Int → Int} {ps : List PV} {vs : List L2.V} {H0 H : Hp} {W : WX} {σ : L2.St} {Q : VK} (rs : Reps X.K H0 ps vs) (sm : Same H0 H) (hh : Post X.K W σ (gE X.K Q) H0 H (pBest f ps)) : rBest X.K f vs H Q := by
  match ps, hh with
  | [p], hh =>
    obtain ⟨v, rfl, r⟩ := reps1 rs
    have hh : Post X.K W σ (gE X.K Q) H0 H (match (rowOf p).bind intRow with
      | some (n :: ns) => .ok (.int (ns.foldl f n))
      | _ => .bad) := hh
    cases hr : rowOf p with
    | none => rw [hr] at hh; exact False.elim hh
    | some xs =>
      rw [hr] at hh
      have hh : Post X.K W σ (gE X.K Q) H0 H (match intRow xs with
        | some (n :: ns) => .ok (.int (ns.foldl f n))
        | _ => .bad) := hh
      cases hi : intRow xs with
      | none => rw [hi] at hh; exact False.elim hh
      | some ms =>
        rw [hi] at hh
        cases ms with
        | nil => exact False.elim hh
        | cons n ns =>
          obtain ⟨a, ws, rfl, hs, rw_⟩ := rowOf_rep hr r sm
          refine ⟨a, n, ns, rfl, ?_, pV sm hh rfl⟩
          rw [← intRow_rep hi rw_]
          exact hs
theorem c_min1 (hc : X.calm = true) (hu : X.A.units + 1 < cLine) : CallP X (.builtin "min") (pBest min) := ⟨_, cr_min1 hc hu, fun W σ ps vs H0 H Q rs sm hh => best_of rs sm hh⟩
theorem c_max1 (hc : X.calm = true) (hu : X.A.units + 1 < cLine) : CallP X (.builtin "max") (pBest max) := ⟨_, cr_max1 hc hu, fun W σ ps vs H0 H Q rs sm hh => best_of rs sm hh⟩
/-! ### max(d.values()) -/
def tVals (td : TE) : TE := fun σ H Q => td σ H fun x H1 => ∃ a kvs, x = .ref a ∧ H1 a = some (.dK kvs) ∧ ∀ p, H1 p = none → Q (.ref p) (upd H1 p (viewO "dict_values" p a))
variable {e o : Expr} {td : TE} {apos cpos : Pos}
theorem pe_vals (he : PE X o td) (hbase : attributeBase o "values" X.env (eval o X.env) = eval o X.env := by rfl) (hline : (apos.endLine == cpos.line) = true := by rfl) : PE X (.Call (.Attribute o "values" apos) [] [] cpos) (tVals td) where
  run pins s σ H Q I h := by
    refine wpAny_Call_method (T := "dict") (id := "dict.values") hbase rfl hline PySem.F.plainAttrs_dict PySem.F.slot_dict_values PySem.F.type_dict_values (thn (he.run pins s σ H _ I h) ?_)
    rintro u s1 ⟨x, H1, I1, rx, d, kvs, rfl, hd, q⟩
    obtain rfl : u = Value.ref d := rx
    obtain ⟨_, hs, vs, kv, dof⟩ := dk_of I1.hok hd
    refine ⟨dof.typeIs, dof.mapOf.noDict, method_meetsIn PySem.F.slot_dict_values PySem.F.entry_dict_values rfl (PySem.evalArgs_none ⟨rfl, dof.typeIs, PySem.F.args_dict_values_1 _, _, meets_dict_values (mixKind X.prog X.w) d hs, ⟨vs, dof⟩, ?_⟩)⟩
    exact ⟨.ref s1.heap.objs.size, _, I1.laid (t' := s1.toks) (fun b ob z => Heap.get?_push_of_some _ z) (Nat.le_refl _) (viewO_ok (Heap.get?_push_size _ rfl)), rfl, q _ (I1.hok.fresh (Nat.le_refl _))⟩
def rMaxV : List L2.V → Hp → VK → Prop := fun vs H Q => ∃ (p a : Addr) (kvs : List (L2.Key × L2.V)) (n : Int) (ns : List Int), vs = [.ref p] ∧ H p = some (viewO "dict_values" p a) ∧ H a = some (.dK kvs) ∧ kvs.map (·.2) = (n :: ns).map V.int ∧ Q (.int (ns.foldl max n)) H
theorem best_max (n : Int) (ns : List Int) {j : Nat} (hj : j ≤ ns.length) (h : ∀ i, i ≤ ns.length → (n :: ns).getD i 0 ≤ (n :: ns).getD j 0) : (n :: ns).getD j 0 = ns.foldl max n := by
  obtain ⟨h1, h2⟩ := Lh.foldl_max ns n
  have get : ∀ {i : Nat}, i ≤ ns.length → (n :: ns).getD i 0 ∈ n :: ns := fun {i} hi => by
    rw [List.getD_eq_getElem?_getD, List.getElem?_eq_getElem (by simp; omega)]
    exact List.getElem_mem _
  have a := h2 _ (get hj)
  obtain ⟨i, hi, e⟩ := List.mem_iff_getElem.mp h1
  have b := h i (by simp at hi; omega)
  have e2 : (n :: ns).getD i 0 = ns.foldl max n := by
    rw [List.getD_eq_getElem?_getD, List.getElem?_eq_getElem hi, e]; rfl
  omega
theorem cr_maxV (hc : X.calm = true) : CallR X (.builtin "max") rMaxV := by
  intro pins s σ H vs us Q I r h
  obtain ⟨p, a, kvs, n, ns, rfl, hp, ha, hv, q⟩ := h
  rw [Vals.ref1 r]
  obtain ⟨_, hsys, ws, rel, dof⟩ := dk_of I.hok ha
  obtain ⟨ep, dat⟩ := dof.dictAt
  obtain ⟨ob, _, hob, _⟩ := id dat
  have hview : s.heap.get? p = some (DSub.viewOb "dict_values" a) := (show ObjOk X.prog X.w H s.heap p (viewO "dict_values" p a) from I.hok p _ hp).1
  have len : ws.length = ns.length + 1 := by
    have := congrArg List.length hv
    rw [List.length_map, KV.length rel] at this
    simpa using this
  have item : ∀ (i : Nat) (v : Value), (∃ k, ws[i]? = some (k, v)) → ∃ t, v = Value.int ((n :: ns).getD i 0) t := by
    rintro i v ⟨k, hk⟩
    obtain ⟨x, h1, h2⟩ := KV.at' rel hk
    have e : ((n :: ns).map V.int)[i]? = some x := by rw [← hv, List.getElem?_map, h1]; rfl
    rw [List.getElem?_map] at e
    obtain ⟨j, hj, rfl⟩ := Option.map_eq_some_iff.mp e
    rw [List.getD_eq_getElem?_getD, hj]
    exact h2
  have big := Heap.lt_size hob
  refine call_max_walk (wpAny_pyIter_values (knd := mixKind X.prog X.w) ⟨_, hview, rfl, rfl⟩ dat ?_)
  refine ⟨s.heap.objs.size, _, _, _, _, _, fun i j => decide ((n :: ns).getD i 0 > (n :: ns).getD j 0), rfl, Walks.dictValues (knd := mixKind X.prog X.w) (A := X.A.in1) (I.ok.hd hc) s.heap.objs.size a (Nat.ne_of_lt big) ws ep,
    ⟨⟨_, Heap.get?_push_size _ rfl, rfl, rfl⟩, dat.keep fun b u z => Heap.get?_push_of_some _ z⟩, ?_, by omega, CmpOf.ints_gt (fun i => (n :: ns).getD i 0) item, ?_⟩
  · intro b hb
    have : b = s.heap.objs.size ∨ b = a := by simpa using hb
    show b < (s.heap.push _).objs.size
    rw [Heap.size_push]
    rcases this with e | e
    · rw [e]; exact Nat.lt_succ_self _
    · rw [e]; exact Nat.lt_succ_of_lt big
  · intro v h' tk hv' hk
    obtain ⟨t, rfl⟩ := item _ v hv'
    have b := argBest_gt (fun i => (n :: ns).getD i 0) (ws.length - 1)
    generalize argBest (fun i j => decide ((n :: ns).getD i 0 > (n :: ns).getD j 0)) (ws.length - 1) = jm at b ⊢
    rw [best_max n ns (by have := b.1; omega) (fun i hi => b.2 i (by omega))]
    refine ⟨.int _, H, I.kept (t' := tk) (fun b u z => hk b u (fun mem => ?_) (Heap.get?_push_of_some _ z)), ⟨_, rfl⟩, q⟩
    have e : b = s.heap.objs.size := by simpa using mem
    rw [e] at z
    exact absurd (Heap.lt_size z) (Nat.lt_irrefl _)
end
section
variable {X : Cx} {W : WX} {M : Md} {V O O' O1 T : List Nat} {e o a : Expr} {st : Stmt} {pos p p2 apos cpos : Pos} {x name : Str}
/-- the ints of a dict's values -/
def intVals : List (L2.Key × PV) → Option (List Int)
  | [] => some []
  | (_, .int i) :: r => (intVals r).map (i :: ·)
  | _ => none
theorem intVals_rep {K : PySem.W.Frag} {H0 : Hp} : ∀ {ks : List (L2.Key × PV)} {ws : List (L2.Key × L2.V)} {ns : List Int}, intVals ks = some ns → RepK K H0 ks ws → ws.map (·.2) = ns.map L2.V.int
  | [], [], ns, h, _ => by cases h; rfl
  | [], _ :: _, _, _, z => False.elim z
  | _ :: _, [], _, _, z => False.elim z
  | (k, x) :: ks, (k', v) :: ws, ns, h, ⟨_, r, rs⟩ => by
    cases x with
    | int i =>
      have h : (intVals ks).map (i :: ·) = some ns := h
      obtain ⟨ms, h1, rfl⟩ := Option.map_eq_some_iff.mp h
      rw [List.map_cons, List.map_cons, intVals_rep h1 rs, show v = .int i from r]
    | _ => cases h
def pMaxV : PV → Rs PV
  | .dic ks => match intVals ks with
    | some (n :: ns) => .ok (.int (ns.foldl max n))
    | _ => .bad
  | _ => .bad
theorem x_maxV {f : Env → Rs PV} (hc : X.calm = true) (hm : X.mg "max" = none) (he : EX X W V o f) (hbase : attributeBase o "values" X.env (eval o X.env) = eval o X.env := by rfl) (hline : (apos.endLine == cpos.line) = true := by rfl) (hg : Gl X "max" := by rfl)
    (hst : starEach [Expr.Call (.Attribute o "values" apos) [] [] cpos] X.env = (false, eval (Expr.Call (.Attribute o "values" apos) [] [] cpos) X.env) :: starEach [] X.env := by rfl) : EX X W V (.Call (.Name "max" p) [.Call (.Attribute o "values" apos) [] [] cpos] [] pos) (b1 f pMaxV) := fun Γ σ H0 H Q sh sm q => by
  refine PE.to (pe_callB (cr_maxV hc) hg hm (by decide +kernel) (pa_cons (pe_vals pe_of hbase hline) pa_nil hst) (by decide) (by decide) hst rfl) ?_
  refine he Γ σ H0 H _ sh sm (q.step.mono fun x H1 H2 g q1 v r => ?_)
  cases x with
  | dic ks =>
    have q1 : Post X.K W σ (gE X.K Q) H1 H2 (match intVals ks with
      | some (n :: ns) => .ok (.int (ns.foldl max n))
      | _ => .bad) := q1
    cases hi : intVals ks with
    | none => rw [hi] at q1; exact False.elim q1
    | some ms =>
      rw [hi] at q1
      cases ms with
      | nil => exact False.elim q1
      | cons n ns =>
        obtain ⟨d, ws, rfl, h, rk⟩ := r
        refine ⟨d, ws, rfl, g.c _ _ h, fun vp hvp => ⟨vp, d, ws, n, ns, rfl, upd_same, ?_, intVals_rep hi rk, ?_⟩⟩
        · rw [upd_ne fun z => ?_]
          · exact g.c _ _ h
          · rw [z] at h
            rw [g.c _ _ h] at hvp; cases hvp
        · exact (q1 _ _ (Gr.newO g.c hvp)) _ rfl
  | _ => exact False.elim q1
/-! ### the first place of an item -/
theorem pe_orE {t1 t2 : TE} (h1 : PE X e t1) (h2 : PE X e t2) : PE X e (fun σ H Q => t1 σ H Q ∨ t2 σ H Q) := ⟨fun pins s σ H Q I h => h.elim (h1.run pins s σ H Q I) (h2.run pins s σ H Q I)⟩
def rIndexT (K : PySem.W.Frag) : L2.V → List L2.V → Hp → VK → Prop := fun x xs H Q => ∃ (a : Addr) (ys : List L2.V) (y : L2.V) (j : Nat) (z : L2.V), x = L2.V.ref a ∧ xs = [y] ∧ SqT K H a ys ∧ flatV y = true ∧ ys.all flatV = true ∧ ys[j]? = some z ∧ eqV z y = true ∧
  (∀ (m : Nat) (z' : L2.V), m < j → ys[m]? = some z' → eqV z' y = false) ∧ Q (.int (j : Nat)) H
theorem mt_indexTup : MtR X "tuple.index" (rIndexT X.K) := by
  rintro pins s σ H x xs v us Q I rx rxs ⟨a, ys, y, j, z, rfl, rfl, hs, fy, fys, hz, hzj, hno, q⟩
  obtain rfl : v = Value.ref a := rx
  obtain ⟨u, rfl, ru⟩ := vals1 rxs
  obtain ⟨its, rv, ⟨⟨cls, dd, data, sl⟩, ho, hc, n, hd⟩, _⟩ := I.tuple hs
  simp only at hc hd
  subst hc hd
  have sz : its.toArray.size = ys.length := by rw [List.size_toArray]; exact rv.length.symm
  have at_ : ∀ (m : Nat) (hm : m < its.toArray.size), ∃ z', ys[m]? = some z' ∧ eqU y its.toArray[m] = eqV z' y := fun m hm => by
    have hm2 : m < ys.length := by omega
    obtain ⟨w, hw, r⟩ := rv.get (List.getElem?_eq_getElem hm2)
    have e : its.toArray[m] = w := by simpa using (List.getElem?_eq_some_iff.mp hw).2
    exact ⟨_, List.getElem?_eq_getElem hm2, by rw [e]; exact eqU_of r (flat_at fys (List.getElem?_eq_getElem hm2))⟩
  have hj : j < its.toArray.size := by rw [sz]; exact (List.getElem?_eq_some_iff.mp hz).1
  refine call_meets PySem.F.slot_tuple_index ⟨_, ho, rfl⟩ PySem.F.entry_tuple_index (PySem.F.args_tuple_index_2 _ _) (TI.tuple_indexAt a its.toArray n dd sl u (eqU y) j hj ?_ fun m hm hmj => ?_) ⟨ho, fun w hw => mem_eqAt ru fy rv fys w (by simpa using hw), .int (j : Nat), H, I.tok _, ⟨_, rfl⟩, q⟩
  · obtain ⟨z', h1, h2⟩ := at_ j hj
    rw [hz] at h1; cases h1
    rw [h2]; exact hzj
  · obtain ⟨z', h1, h2⟩ := at_ m hm
    rw [h2]; exact hno m z' hmj h1
/-- t.m(e), t a tuple that is known to be plain -/
def tTunM (r : L2.V → List L2.V → Hp → VK → Prop) (to : TE) (t : TA) : TE := fun σ H Q => to σ H fun x H1 => (∃ a vs o, x = .ref a ∧ H1 a = some (.frz o (.tup vs)) ∧ o.dict = none) ∧ t σ H1 fun xs H2 => r x xs H2 Q
theorem pe_tunM {id : String} {r : L2.V → List L2.V → Hp → VK → Prop} {to : TE} {t : TA} (slot : Slot "tuple" name id) (hty : typeOf (.builtin id) = pure (.type "method_descriptor")) (hm : MtR X id r) (ho : PE X o to) (ha : PA X [e] t)
    (hbase : attributeBase o name X.env (eval o X.env) = eval o X.env := by rfl) (hs : starEach [e] X.env = [(false, eval e X.env)] := by rfl) (hline : (apos.endLine == cpos.line) = true := by rfl) : PE X (.Call (.Attribute o name apos) [e] [] cpos) (tTunM r to t) where
  run pins s σ H Q I h := by
    refine wpAny_Call_method_late (trees := [(false, eval e X.env)]) hbase (by rw [hs]; rfl) hline (by rw [hs]; rfl) (thn (ho.run pins s σ H _ I h) ?_)
    rintro v s1 ⟨x, H1, I1, r1, ⟨a, vs, ob, rfl, ha1, hn⟩, q1⟩
    obtain rfl : v = Value.ref a := r1
    obtain ⟨h1, h2⟩ := (show ObjOk X.prog X.w H1 s1.heap a (.frz ob (.tup vs)) from I1.hok a _ ha1)
    obtain ⟨_, its, _, hT⟩ := h2
    obtain ⟨o2, ho2, hc2, _⟩ := hT
    refine ⟨"tuple", id, PySem.F.plainAttrs_tuple, slot, hty, ⟨o2, ho2, hc2⟩, fun b e2 => ?_, ?_⟩
    · cases e2; exact ⟨ob, h1, hn⟩
    have hA := ha.run cpos pins s1 σ H1 _ I1 q1
    rw [hs] at hA
    exact Calls.callWith_builtin rfl (Calls.evalArgs_plain (thn hA fun us s2 ⟨ws, H2, I2, r2, q2⟩ => hm pins s2 σ H2 (.ref a) ws (.ref a) us Q I2 rfl r2 q2))
def isRow : PV → Bool
  | .lst _ => true
  | .tun _ => true
  | _ => false
def bIdx (f g : Env → Rs PV) (k : PV → PV → Rs PV) : Env → Rs PV := fun Γ => (f Γ).bind fun x => if isRow x = true then (g Γ).bind fun y => k x y else .bad
def pIndex (x y : PV) : Rs PV := match (match x with
  | .lst xs => some xs
  | .tun xs => some xs
  | _ => none) with
  | some xs => if flatP y = true ∧ xs.all flatP = true then (match xs.findIdx? (fun z => eqF z y) with
    | some j => .ok (.int (j : Nat))
    | none => .bad) else .bad
  | none => .bad
theorem index_core {H0 H : Hp} {xs : List PV} {vs : List L2.V} {y : PV} {w : L2.V} {j : Nat} (rs : Reps X.K H0 xs vs) (r : Rep X.K H0 y w) (hy : flatP y = true) (hxs : xs.all flatP = true) (hj : xs.findIdx? (fun z => eqF z y) = some j) :
    flatV w = true ∧ vs.all flatV = true ∧ ∃ z, vs[j]? = some z ∧ eqV z w = true ∧ ∀ (m : Nat) (z' : L2.V), m < j → vs[m]? = some z' → eqV z' w = false := by
  have hx : ∀ {m : Nat} {u : L2.V}, vs[m]? = some u → ∃ x, xs[m]? = some x ∧ Rep X.K H0 x u ∧ flatP x = true := fun {m u} h => by
    obtain ⟨x, h1, h2⟩ := rs.getV h
    exact ⟨x, h1, h2, List.all_eq_true.mp hxs x (List.mem_of_getElem? h1)⟩
  obtain ⟨hlt, h1, h2⟩ := List.findIdx?_eq_some_iff_getElem.mp hj
  refine ⟨flat_of r hy, ?_, ?_⟩
  · rw [List.all_eq_true]
    intro u hu
    obtain ⟨m, hm, e⟩ := List.getElem_of_mem hu
    obtain ⟨x, _, h3, h4⟩ := hx (m := m) (u := u) (by rw [← e]; exact List.getElem?_eq_getElem hm)
    exact flat_of h3 h4
  · have hj2 : j < vs.length := by rw [rs.len]; exact hlt
    refine ⟨vs[j], List.getElem?_eq_getElem hj2, ?_, fun m z' hm hz => ?_⟩
    · obtain ⟨x, e1, e2, e3⟩ := hx (List.getElem?_eq_getElem hj2)
      rw [eqF_of e2 r e3 hy]
      rw [List.getElem?_eq_getElem hlt] at e1
      cases e1
      exact h1
    · obtain ⟨x, e1, e2, e3⟩ := hx hz
      rw [eqF_of e2 r e3 hy]
      have := h2 m hm
      rw [List.getElem?_eq_getElem (Nat.lt_trans hm hlt)] at e1
      cases e1
      simpa using this
theorem x_index {f g : Env → Rs PV} (ho : EX X W V o f) (he : EX X W V e g) (hbase : attributeBase o "index" X.env (eval o X.env) = eval o X.env := by rfl)
    (hfew : ((backTo cpos (starEach [e] X.env)).all (fun x => !x.1) && (backToKw cpos (keywordEach [] X.env)).all (fun x => x.1.isSome) && decide ([e].length + ([] : List Keyword).length + (if ([] : List Keyword).isEmpty then 0 else 1) < 30)) = true := by rfl)
    (hs : starEach [e] X.env = [(false, eval e X.env)] := by rfl) (hline : (apos.endLine == cpos.line) = true := by rfl) : EX X W V (.Call (.Attribute o "index" apos) [e] [] cpos) (bIdx f g pIndex) := fun Γ σ H0 H Q sh sm q => by
  refine PE.to (pe_orE (pe_bm PySem.F.plainAttrs_list PySem.F.slot_list_index PySem.F.type_list_index mt_index pe_of (pa_cons pe_of pa_nil hs) hbase hfew hline hs rfl) (pe_tunM PySem.F.slot_tuple_index PySem.F.type_tuple_index mt_indexTup pe_of (pa_cons pe_of pa_nil hs) hbase hs hline)) ?_
  have q : Post X.K W σ (gE X.K Q) H0 H ((f Γ).bind fun x => if isRow x = true then (g Γ).bind fun y => pIndex x y else .bad) := q
  have core : ∀ {xs : List PV} {y : PV} {H1 H2 : Hp}, Post X.K W σ (gE X.K Q) H1 H2 (if flatP y = true ∧ xs.all flatP = true then (match xs.findIdx? (fun z => eqF z y) with
      | some j => .ok (.int (j : Nat))
      | none => .bad) else .bad) → Same H1 H2 → ∀ {vs : List L2.V} {w : L2.V}, Reps X.K H1 xs vs → Rep X.K H1 y w → ∃ j z, flatV w = true ∧ vs.all flatV = true ∧ vs[j]? = some z ∧ eqV z w = true ∧ (∀ (m : Nat) (z' : L2.V), m < j → vs[m]? = some z' → eqV z' w = false) ∧ Q (.int (j : Nat)) H2 := fun {xs y H1 H2} hq s12 {vs w} rs r => by
    split at hq
    · rename_i hf
      cases hj : xs.findIdx? (fun z => eqF z y) with
      | none => rw [hj] at hq; exact False.elim hq
      | some j =>
        rw [hj] at hq
        obtain ⟨k1, k2, z, k3, k4, k5⟩ := index_core (H := H2) rs r hf.1 hf.2 hj
        exact ⟨j, z, k1, k2, k3, k4, k5, pV s12 hq rfl⟩
    · exact False.elim hq
  cases hf : f Γ with
  | bad => rw [hf] at q; exact False.elim q
  | ex C fs =>
    refine .inl (ho Γ σ H0 H _ sh sm ?_)
    rw [hf] at q ⊢
    exact q
  | ok p =>
    rw [hf] at q
    have q : Post X.K W σ (gE X.K Q) H0 H (if isRow p = true then (g Γ).bind fun y => pIndex p y else .bad) := q
    cases p with
    | lst xs =>
      refine .inl (ho Γ σ H0 H _ sh sm ?_)
      rw [hf]
      intro H1 H2 g1 v r
      have q : Post X.K W σ (gE X.K Q) H1 H2 ((g Γ).bind fun y => pIndex _ y) := Post.gr g1 q
      obtain ⟨t, vs, rfl, ht, rs⟩ := r
      refine ⟨.inl ⟨rfl, vs, SqL.of (g1.c _ _ ht)⟩, he Γ σ H1 H2 _ (sh.mono g1.a) g1.c (q.step.mono fun y H3 H4 g2 q2 w r2 => ?_)⟩
      obtain ⟨j, z, k1, k2, k3, k4, k5, k6⟩ := core q2 g2.c (Reps.mono g2.a _ _ rs) r2
      exact ⟨t, vs, w, j, z, rfl, rfl, SqL.of (g2.c _ _ (g2.a _ _ ht)), k1, k2, k3, k4, k5, k6⟩
    | tun xs =>
      refine .inr (ho Γ σ H0 H _ sh sm ?_)
      rw [hf]
      intro H1 H2 g1 v r
      have q : Post X.K W σ (gE X.K Q) H1 H2 ((g Γ).bind fun y => pIndex _ y) := Post.gr g1 q
      obtain ⟨t, vs, rfl, ⟨ob, ht, hn⟩, rs⟩ := r
      refine ⟨⟨t, vs, ob, rfl, g1.c _ _ ht, hn⟩, he Γ σ H1 H2 _ (sh.mono g1.a) g1.c (q.step.mono fun y H3 H4 g2 q2 w r2 => ?_)⟩
      obtain ⟨j, z, k1, k2, k3, k4, k5, k6⟩ := core q2 g2.c (Reps.mono g2.a _ _ rs) r2
      exact ⟨t, vs, w, j, z, rfl, rfl, .inl (.inr ⟨ob, g2.c _ _ (g2.a _ _ ht)⟩), k1, k2, k3, k4, k5, k6⟩
    | _ => exact False.elim q
end
end Lh.P
set_option Elab.async false
set_option linter.all false
set_option maxRecDepth 100000
set_option maxHeartbeats 4000000
/-! tuple(xs) told plain; xs[i] += e. -/
namespace Lh.P
open PySem PySem.Spec PyProof.Rows L2 _root_.SX
section
variable {X : Cx} {W : WX} {M : Md} {V O O' O1 T : List Nat} {e o a : Expr} {st : Stmt} {pos p p2 apos cpos : Pos} {x name : Str}
/-- tuple(xs) of a list: a tuple with nothing besides -/
def rTun (K : PySem.W.Frag) : List L2.V → Hp → VK → Prop := fun vs H Q => ∃ (a : Addr) (ys : List L2.V), vs = [.ref a] ∧ SqL K H a ys ∧ ∀ (l : Addr) (ob : Obj), H l = none → ob.dict = none → Q (.ref l) (upd H l (.frz ob (.tup ys)))
theorem cr_tun : CallR X (.type "tuple") (rTun X.K) := by
  rintro pins s σ H vs us Q I r ⟨a, ys, rfl, hs, q⟩
  rw [Vals.ref1 r]
  obtain ⟨its, rv, pl, hz⟩ := I.list hs
  refine call_tuple_list pl.isList (fun h' k => ?_) (by have := rv.length; simp only [List.size_toArray]; omega)
  have I1 : Inv X pins σ H { s with heap := h' } := I.kept (t' := s.toks) k
  have lay := I1.laid (t' := s.toks) (a := h'.objs.size) (o := .frz { cls := .type "tuple", data := .seq its.toArray } (.tup ys)) (h' := h'.push { cls := .type "tuple", data := .seq its.toArray }) (fun b o z => Heap.get?_push_of_some _ z) (Nat.le_refl _)
    ⟨Heap.get?_push_size _ rfl, hz, its, rv, IsTup.new _ _⟩
  exact ⟨.ref h'.objs.size, _, lay, rfl, q _ _ (I1.hok.fresh (Nat.le_refl _)) rfl⟩
def pTun : List PV → Rs PV
  | [.lst xs] => .ok (.tun xs)
  | _ => .bad
theorem c_tun : CallP X (.type "tuple") pTun := ⟨_, cr_tun, fun W σ ps vs H0 H Q rs sm hh => by
  match ps, hh with
  | [.lst xs], hh =>
    obtain ⟨v, rfl, r⟩ := reps1 rs
    obtain ⟨a, ws, rfl, h, rr⟩ := r
    refine ⟨a, ws, rfl, SqL.of (sm _ _ h), fun l ob hl hd => ?_⟩
    have g := Gr.new (o := .frz ob (.tup ws)) sm hl
    exact hh _ _ g _ ⟨l, ws, rfl, ⟨ob, upd_same, hd⟩, Reps.mono g.a _ _ rr⟩⟩
/-! ### xs[i] += e -/
def rGetL : L2.V → L2.V → Hp → VK → Prop := fun o i H Q => ∃ (p : Addr) (xs : List L2.V) (k : Int) (v : L2.V), o = .ref p ∧ i = .int k ∧ H p = some (.lst xs) ∧ 0 ≤ k ∧ xs[k.toNat]? = some v ∧ Q v H
theorem get_listG : PGet X rGetL := by
  rintro pins s σ H o i ov iv Q I ro ri ⟨p, xs, k, v, rfl, rfl, hp, h0, hv, q⟩
  obtain rfl : ov = Value.ref p := ro
  obtain ⟨t, rfl⟩ := ri
  obtain ⟨its, rv, pl, hz⟩ := I.list (SqL.of hp)
  obtain ⟨w, hw, r⟩ := rv.get hv
  have hk : k.toNat < xs.length := (List.getElem?_eq_some_iff.mp hv).1
  have := line63
  exact wpAny_getItem_list pl.isList h0 (by omega) (by simpa using hw) ⟨v, H, I, r, q⟩
/-- xs[k] op= e, ints -/
def dAug (V O : List Nat) (i : Nat) (op : Int → Int → Int) (fk fe : Env → Rs PV) : Env → Out := fun Γ => match Γ[i]? with
  | some (some (.lst _)) => outE ((fk Γ).bind fun k => (match Γ[i]?, k with
      | some (some (.lst xs)), .int j => if 0 ≤ j then ofO xs[j.toNat]? else .bad
      | _, _ => .bad).bind fun x => (fe Γ).bind fun y => match k, x, y with
        | .int j, .int u, .int w => .ok (j, op u w)
        | _, _, _ => .bad) Γ fun jz => match Γ[i]? with
    | some (some (.lst xs)) => .next (Γ.set i (some (.lst (xs.set jz.1.toNat (.int jz.2)))))
    | _ => .bad
  | _ => .bad
theorem s_aug {i : Nat} {op : Int → Int → Int} {fk fe : Env → Rs PV} (ps : ∀ te ti, PE X e te → PE X a ti → PS X st (tAugS (tVar i) ti te rGetL (ipI op) rSetL)) (hk : EX X W V a fk) (he : EX X W V e fe) (hi : i ∈ O) (hV : ∀ j ∈ V, j ∉ O) (ok : OkO M O) : SX X W M O O st (dAug V O i op fk fe) := fun Z Γ σ H0 H D io E p => by
  refine PS.to (ps _ _ pe_of pe_of) ?_
  unfold dAug at p
  cases hg : Γ[i]? with
  | none => rw [hg] at p; exact False.elim p
  | some o =>
    cases o with
    | none => rw [hg] at p; exact False.elim p
    | some q =>
      cases q with
      | lst xs =>
        simp only [hg] at p
        obtain ⟨ρ, h1, h2⟩ := E.own
        obtain ⟨k1, ⟨vs, k2, rs⟩, k3, k4, k5⟩ := h1 i hi _ hg rfl
        refine ⟨_, k1, ?_⟩
        refine lend_post (V := V) (α := Int × Int) (good := fun jz H0' H' => 0 ≤ jz.1 ∧ jz.1.toNat < xs.length → rSetL (.ref (ρ i)) (.int jz.1) (.int jz.2) H' fun H6 => D.nx σ H6) (R := fun _ H => tOf X a σ H fun k H2 => rGetL (.ref (ρ i)) k H2 fun x H3 => tOf X e σ H3 fun y H4 => ipI op x y H4 fun z H5 => rSetL (.ref (ρ i)) k z H5 fun H6 => D.nx σ H6) io ok E p (fun j => j ∈ V) (fun j hj _ => hj) (fun H0p sh sm q => ?_) fun jz H0' H' _ pn L hb => ?_
        · refine hk Γ σ H0p H _ sh sm (q.step.mono fun k H1 H2 g q1 kv rk => ?_)
          cases k with
          | int j =>
            have q1 := q1
            by_cases hj : 0 ≤ j
            · simp only [if_pos hj] at q1
              cases hx : xs[j.toNat]? with
              | none => rw [hx] at q1; exact False.elim q1
              | some x =>
                rw [hx] at q1
                obtain ⟨v, hv, rv⟩ := rs.get hx
                refine ⟨ρ i, vs, j, v, rfl, rk, g.b _ _ k2, hj, hv, ?_⟩
                refine he Γ σ H1 H2 _ (sh.mono g.a) g.c (Post.mono (fun y H3 H4 g2 q2 w rw_ => ?_) (Post.step q1))
                cases x with
                | int u =>
                  cases y with
                  | int w' => exact ⟨u, w', rv, rw_, by rw [show kv = .int j from rk]; exact Post.pure (K := X.K) (W := W) (σ := σ) g2.c q2 ⟨hj, (List.getElem?_eq_some_iff.mp hx).1⟩⟩
                  | _ => exact False.elim q2
                | _ => exact False.elim q2
            · simp only [if_neg hj] at q1; exact False.elim q1
          | _ => exact False.elim q1
        · obtain ⟨sH, _, H0'', E2, s1, _, _, aw⟩ := L
          obtain ⟨j, z⟩ := jz
          refine ⟨ρ i, vs, j, j.toNat, rfl, rfl, sH _ _ k2, ?_, ?_⟩
          · unfold ixN
            rw [rs.len, if_pos hb.1, if_pos (by have := hb.2; omega)]
          · exact pn _ _ _ (E2.change hi hg rfl k1 ⟨_, upd_same, (Reps.mono s1 _ _ rs).set _ rfl⟩)
      | _ => rw [hg] at p; exact False.elim p
end
end Lh.P
namespace Lh.P
open PySem PySem.Spec PyProof.Rows L2
theorem hu1 {k : Nat} {A : Around} (r : Room k A) : A.units + 1 < cLine := by have := hu65 r; omega
theorem huI {k : Nat} {A : Around} (r : Room k A) : A.in1.units < cLine := hu_of r
/-- more turns than any loop of the texts takes -/
def fuel : Nat := 100000000
end Lh.P
namespace Lh.P
open PySem PySem.Spec PyProof.Rows L2
section
variable {P : Program} {w : World} {K : PySem.W.Frag} {mg : Str → Option Value} {base : Heap} {N ps : List Str} {x qual : Str} {k : Nat}
/-- a def by its body, its function named -/
theorem fn_okF {params : Arguments} {body : List Stmt} {scope : Scope} {dvs : List L2.V} {kws : List (Str × L2.V)} {f : Addr} {fd : FuncData} {fB : Env → Out} (F : FunD K x qual params body scope dvs kws f fd) (S : FnScope N ps scope)
    (hB : ∀ (cdv : Value) (A : Around) (outer : List PySem.Env) (s : Shared) (H : Hp) (E : XK), Room k (A.deeper (envOfC qual scope s.heap.objs.size f cdv)) →
      BX (cxOf (L2.CX P w) P w K mg base N qual scope f cdv A outer s H E) (WF E) ⟨[], [], [], false⟩ [] [] body fB) : FnOk P w K mg base (L2.CX P w) (k + 1) f fd ps (spF K ps.length (fnF N ps.length fB)) :=
  F.ok S (fun vs H Q E h => h.1) fun cdv A outer s H vs Q E hr h => ⟨_, pss_of, by
    obtain ⟨_, qs, H0, rs, sm, q⟩ := h
    obtain ⟨hq, q⟩ := post_if q
    have hle : qs.length ≤ N.length := by
      have := congrArg List.length S.pre
      rw [List.length_take] at this
      omega
    refine hB cdv A outer s H E hr ⟨H0, H, []⟩ (startE N qs) (L2.start N vs) H0 H _ (fun q hq => by cases hq) (env_start rs sm hle) ?_
    cases hf : fB (startE N qs) with
    | next Γ => rw [hf] at q; exact fun σ H0' H' E' => q H0' H' (env_gr E') _ rfl
    | ret p Γ => rw [hf] at q; exact fun v σ H0' H' E' r => q H0' H' (env_gr E') v r
    | exc C fs Γ => rw [hf] at q; exact fun d σ H0' H' E' r => q d H0' H' (env_gr E') r
    | _ => rw [hf] at q; exact False.elim q⟩
end
end Lh.P
set_option Elab.async false
set_option linter.all false
set_option maxRecDepth 100000
set_option maxHeartbeats 4000000
/-! xs.pop() as a statement; return xs if c else None. -/
namespace Lh.P
open PySem PySem.Spec PyProof.Rows L2 _root_.SX
section
variable {X : Cx} {W : WX} {V O O' : List Nat} {M : Md} {st : Stmt} {c a b e : Expr} {pos p2 : Pos} {Z : Zn} {Γ : Env} {σ : L2.St} {H0 H : Hp} {D : Ends}
def dPopE (i : Nat) : Env → Out := fun Γ => match Γ[i]? with
  | some (some (.lst xs)) => if xs.length = 0 then .bad else .next (Γ.set i (some (.lst xs.dropLast)))
  | _ => .bad
theorem s_popE {i : Nat} (ps : PS X st (tDrop (tBM0 X.K "list" L2.rPop (tVar i)))) (hi : i ∈ O) (ok : OkO M O) : SX X W M O O st (dPopE i) := fun Z Γ σ H0 H D io E p => by
  refine PS.to ps ?_
  have p : PostS X.K W Z M O D (match Γ[i]? with
    | some (some (.lst xs)) => if xs.length = 0 then .bad else .next (Γ.set i (some (.lst xs.dropLast)))
    | _ => .bad) := p
  cases hg : Γ[i]? with
  | none => rw [hg] at p; exact False.elim p
  | some o =>
    cases o with
    | none => rw [hg] at p; exact False.elim p
    | some q =>
      cases q with
      | lst xs =>
        simp only [hg] at p
        obtain ⟨ρ, h1, h2⟩ := E.own
        obtain ⟨k1, ⟨vs, k2, rs⟩, k3, k4, k5⟩ := h1 i hi _ hg rfl
        split at p
        · exact False.elim p
        · rename_i hz
          have hl : vs.length - 1 < vs.length := by rw [rs.len]; omega
          refine ⟨_, k1, .inl ⟨rfl, vs, SqL.of k2⟩, ρ i, vs, _, rfl, rfl, k2, List.getElem?_eq_getElem hl, p _ _ _ (E.change hi hg rfl k1 ⟨_, upd_same, ?_⟩)⟩
          rw [List.dropLast_eq_take, List.dropLast_eq_take, ← rs.len]
          exact rs.take _
      | _ => rw [hg] at p; exact False.elim p
theorem retV_ok {i : Nat} (hR : M.R = true) (hi : i ∈ O) (hi2 : i ∉ M.IO) (ok : OkO M O) (io : ioOk Z M) (E : EnvOk X.K Z O H0 H Γ σ) (p : PostS X.K W Z M O' D (dRetV i Γ)) : tVar i σ H D.rt := by
  have p : PostS X.K W Z M O' D (match Γ[i]? with
    | some (some p) => .ret p (Γ.set i none)
    | _ => .bad) := p
  cases hp : Γ[i]? with
  | none => rw [hp] at p; exact False.elim p
  | some o =>
    cases o with
    | none => rw [hp] at p; exact False.elim p
    | some q =>
      rw [hp] at p
      obtain ⟨H1, s1, _, E3⟩ := E.freeze (O' := i :: M.IO) (fun j hj => (List.mem_cons.mp hj).elim (fun e => by rw [e]; exact hi) fun z => ok.ox j (ok.io j z)) fun q hq => List.mem_cons_of_mem _ (io q hq)
      have p : if M.R then RetO X.K Z M.IO (Γ.set i none) q D.rt else _ := p
      rw [hR] at p
      by_cases sq : scP q = true
      · obtain ⟨v, k1, k2⟩ := E3.vals i q hp (.inr sq)
        exact ⟨_, k1, p.1 sq _ _ _ _ (E3.drop hi2 fun q hq => io q hq) k2⟩
      obtain ⟨ρ, h1, _⟩ := E3.own
      obtain ⟨k1, k2, k3, k4, _⟩ := h1 i List.mem_cons_self q hp (by simpa using sq)
      exact ⟨_, k1, p.2 _ _ _ _ (E3.drop hi2 fun q hq => io q hq) k3 k4 k2⟩
def dRetI (i : Nat) (t : Env → Rs Bool) : Env → Out := fun Γ => outE (t Γ) Γ fun b => if b = true then dRetV i Γ else .ret .non Γ
/-- return xs if c else None, xs a new list of this body -/
theorem s_retI {i : Nat} {t : Env → Rs Bool} (hR : M.R = true) (hc : TX X W V c t) (ha : PE X a (tVar i)) (hb : PE X b (tC .non)) (hi : i ∈ O) (hi2 : i ∉ M.IO) (ok : OkO M O) : SX X W M O O' (.Return (some (.IfExp c a b p2)) pos) (dRetI i t) := fun Z Γ σ H0 H D io E p => by
  refine PS.to (ps_ret (pe_ifExp pt_of ha hb)) ?_
  show ttOf X c σ H fun k H1 => if k = true then tVar i σ H1 D.rt else tC .non σ H1 D.rt
  refine lend_post (V := V) (R := fun _ H => ttOf X c σ H fun k H1 => if k = true then tVar i σ H1 D.rt else tC .non σ H1 D.rt) io ok E p (fun j => j ∈ V) (fun j hj _ => hj) (fun H0p sh sm q => hc Γ σ H0p H _ sh sm q) fun k H0' H' _ pn L => ?_
  obtain ⟨_, _, H0'', E2, _⟩ := L
  cases k with
  | true => exact retV_ok hR hi hi2 ok io E2 pn
  | false =>
    have pn : if M.R then RetO X.K Z M.IO Γ .non D.rt else _ := pn
    rw [hR] at pn
    obtain ⟨H1, s1, _, E3⟩ := E2.freeze (O' := M.IO) (fun j hj => ok.ox j (ok.io j hj)) fun q hq => io q hq
    exact pn.1 rfl _ _ _ _ E3 rfl
end
end Lh.P
set_option Elab.async false
set_option linter.all false
set_option maxRecDepth 100000
set_option maxHeartbeats 4000000
/-! sorted of a list of ints. -/
namespace Lh.P
open PySem PySem.Spec PyProof.Rows L2 _root_.SX
/-- a number put where it belongs -/
def insI (x : Int) : List Int → List Int
  | [] => [x]
  | y :: ys => if x ≤ y then x :: y :: ys else y :: insI x ys
def srtI : List Int → List Int
  | [] => []
  | x :: xs => insI x (srtI xs)
theorem insI_perm (x : Int) : ∀ ys : List Int, (insI x ys).Perm (x :: ys)
  | [] => .refl _
  | y :: ys => by
    unfold insI
    split
    · exact .refl _
    · exact ((insI_perm x ys).cons y).trans (.swap x y ys)
theorem srtI_perm : ∀ xs : List Int, (srtI xs).Perm xs
  | [] => .refl _
  | x :: xs => (insI_perm x _).trans ((srtI_perm xs).cons x)
theorem insI_up (x : Int) : ∀ {ys : List Int}, ys.Pairwise (· ≤ ·) → (insI x ys).Pairwise (· ≤ ·)
  | [], _ => List.pairwise_singleton _ _
  | y :: ys, h => by
    obtain ⟨h1, h2⟩ := List.pairwise_cons.mp h
    unfold insI
    split
    · rename_i hx
      exact List.pairwise_cons.mpr ⟨fun z hz => by
        rcases List.mem_cons.mp hz with rfl | hz
        · exact hx
        · have := h1 z hz; omega, h⟩
    · rename_i hx
      refine List.pairwise_cons.mpr ⟨fun z hz => ?_, insI_up x h2⟩
      rcases List.mem_cons.mp ((insI_perm x ys).mem_iff.mp hz) with rfl | hz
      · omega
      · exact h1 z hz
theorem srtI_up : ∀ xs : List Int, (srtI xs).Pairwise (· ≤ ·)
  | [] => .nil
  | x :: xs => insI_up x (srtI_up xs)
/-- two rows in order with the same numbers are the same -/
theorem same_up : ∀ {xs ys : List Int}, xs.Perm ys → xs.Pairwise (· ≤ ·) → ys.Pairwise (· ≤ ·) → xs = ys
  | [], ys, p, _, _ => by rw [List.nil_perm.mp p]
  | x :: xs, [], p, _, _ => by have := p.length_eq; simp at this
  | x :: xs, y :: ys, p, h1, h2 => by
    obtain ⟨a1, a2⟩ := List.pairwise_cons.mp h1
    obtain ⟨b1, b2⟩ := List.pairwise_cons.mp h2
    have e : x = y := by
      have m1 : x ∈ y :: ys := p.mem_iff.mp List.mem_cons_self
      have m2 : y ∈ x :: xs := p.mem_iff.mpr List.mem_cons_self
      rcases List.mem_cons.mp m1 with e | m1
      · exact e
      · rcases List.mem_cons.mp m2 with e | m2
        · exact e.symm
        · have := a1 y m2
          have := b1 x m1
          omega
    subst e
    rw [same_up (List.perm_cons _ |>.mp p) a2 b2]
def pSorted : List PV → Rs PV := intsOf fun ns => .ok (.lst ((srtI ns).map .int))
section
variable {X : Cx}
theorem c_sorted : CallO X (.builtin "sorted") pSorted := ⟨_, cr_sortedI, fun W σ ps vs H0 Hs H Q sHs rs sm hh => by
  obtain ⟨a, ns, rfl, h, hh⟩ := intsOf_ok rs hh
  refine ⟨a, ns, rfl, SqL.of (sm _ _ h), fun ns' p pm up hp => ?_⟩
  have e : ns' = srtI ns := same_up (pm.trans (srtI_perm ns).symm) up (srtI_up ns)
  subst e
  refine (hh _ _ (Gr.newO (o := .lst ((srtI ns).map L2.V.int)) sm hp)).2 p (none_back sHs hp) (none_back sm hp) ⟨_, upd_same, ?_⟩
  generalize srtI ns = l
  induction l with
  | nil => trivial
  | cons x l ih => exact ⟨rfl, ih⟩⟩
end
end Lh.P
set_option Elab.async false
set_option linter.all false
set_option maxRecDepth 100000
set_option maxHeartbeats 4000000
/-! name = {k: v for ..}. -/
namespace Lh
open PySem PySem.Spec PyProof.Rows L2
section
variable {X : Cx}
theorem sw_dc {kx vx : Expr} {gs : List Comprehension} {scope : Scope} {pos py : Pos} {y : Str} {l : Nat} {env : Env} (hk : env.scope.kind = .function) (hy : env.scope.names.lookup y = some .local) (hl : (py.line == pos.line) = true)
    (ha : (scope.names.any fun (n, k) => n == y && (k == .local || k == .cell)) = false) : swapsWith (.DictComp kx vx gs scope pos) (some (.Name y py)) l env = pure true := by
  have e1 : env.kindOf y = some .local := hy
  have e2 : env.blockKind = .function := by
    unfold Env.blockKind
    rw [hk]
    rfl
  unfold swapsWith
  simp only [e1, e2, ha, Expr.pos, hl]
  rfl
theorem ps_setDc {i : Nat} {y : Str} {py : Pos} {kx vx tg iter : Expr} {ifs : List Expr} {scope : Scope} {own : List (Str × Nat)} {pos spos : Pos} {wi : TI} {g : TG} {tt : TT} {tk tv : TE} (hc : X.calm = true) (hN : X.N.Nodup) (hy : X.N[i]? = some y) (hyl : X.env.scope.names.lookup y = some .local)
    (hsw : swapsWith (.DictComp kx vx [⟨tg, iter, ifs, 0⟩] scope pos) (some (.Name y py)) spos.line X.env = pure true) (hi : PI X tg iter wi) (ok : BlkOk X.N X.env.scope scope own)
    (hg : ∀ (s : Shared) (H : Hp) (C : Addr) (cl : List (Str × Addr)) (fp : List Addr), PG (X.blk s H scope (compEnvC scope cl C X.env) fp) tg g)
    (ht : ∀ (s : Shared) (H : Hp) (C : Addr) (cl : List (Str × Addr)) (fp : List Addr), PTs (X.blk s H scope (compEnvC scope cl C X.env) fp) ifs tt)
    (hk : ∀ (s : Shared) (H : Hp) (C : Addr) (cl : List (Str × Addr)) (fp : List Addr), PE (X.blk s H scope (compEnvC scope cl C X.env) fp) kx tk)
    (he : ∀ (s : Shared) (H : Hp) (C : Addr) (cl : List (Str × Addr)) (fp : List Addr), PE (X.blk s H scope (compEnvC scope cl C X.env) fp) vx tv) (hs : ∀ x, foldedSetIterable iter X.env x = pure x := by intro _; rfl) :
    PS X (.Assign [.Name y py] (.DictComp kx vx [⟨tg, iter, ifs, 0⟩] scope pos) spos) (tAsg (tDc wi g tt tk tv (own.map (·.2))) (gName i)) := by
  refine ⟨fun pins s σ H D I h => ?_⟩
  rw [exec_Assign_Name_used _ _ _ _ hsw]
  refine wpAny_bind (wpAny_standAt (wpAny_bind ?_))
  have h : tDc wi g tt tk tv (own.map (·.2)) σ H (fun x H1 => gName i x σ H1 D.nx) := h
  refine wpAny_bind (thn (dc_core (Qf := fun _ s' => SP X pins D .next s') hc hN I hi ok hg ht hk he hs h fun L C s' m H' I' q hn f => ?_) fun _ s' hq => wpAny_pure (wpAny_pure hq))
  refine wpAny_assign_Name (store_ok2 (v := V.ref L) I' hN hy (.inl hyl) rfl (fun s2 I2 z => ?_) (.inr hyl))
  obtain ⟨a, sb, ha⟩ := z
  obtain ⟨f0, f1, f2, f3, f4, f5⟩ := f
  have hca : C ≠ a := ha.elim (fun z => by rw [z]; exact f1) fun z e => f4 y a z e.symm
  exact ⟨m, hn.sameBut sb hca, fun h3 sb3 => ⟨_, H', I2.turned (t' := s2.toks) (fun b o hb e => (sb3.2 b hb).trans e) f0 f1 f3 f4 f5, q⟩⟩
end
/-- a dict comprehension over anything that is walked -/
theorem dc_it {J : It} {n : Nat} {G : Hp → Prop} {Y : Nat → Hp → V → Hp → Prop} (w : Walk J n G Y) {g : TG} {tt : TT} {tk tv : TE} {vs : List Nat} {σ : L2.St} {H1 : Hp} {D : Addr} {Qd : Hp → Prop} (Pv : Nat → Hp → Prop) (h0 : Pv 0 (upd H1 D (.dK []))) (hG : ∀ i H, i ≤ n → Pv i H → G H)
    (hs : ∀ i x H H', i < n → Pv i H → Y i H x H' → g x (wipe σ vs) H' fun σ2 H2 => wipe σ2 vs = wipe σ vs ∧ tt σ2 H2 fun b H3 =>
      if b = true then tk σ2 H3 fun y H4 => tv σ2 H4 fun z H5 => ∃ kvs k, y = kV k ∧ H5 D = some (.dK kvs) ∧ kvs.length < sizeLine ∧ Pv (i + 1) (upd H5 D (.dK (putK kvs k z))) else Pv (i + 1) H3) (hd : ∀ H, Pv n H → Qd H) :
    ∃ W : Nat → Nat → Hp → Prop, (∃ m, W 0 m (upd H1 D (.dK []))) ∧ ∀ i m H, W i m H →
      (J.stop i H ∧ Qd H) ∨ (J.go i H ∧ ∃ Nx : Hp → Prop, (∀ H', Nx H' → ∃ m', m' < m ∧ W (i + 1) m' H') ∧ ∀ x H', J.yld i H x H' → g x (wipe σ vs) H' fun σ2 H2 => wipe σ2 vs = wipe σ vs ∧ tt σ2 H2 fun b H3 =>
        if b = true then tk σ2 H3 fun y H4 => tv σ2 H4 fun z H5 => ∃ kvs k, y = kV k ∧ H5 D = some (.dK kvs) ∧ kvs.length < sizeLine ∧ Nx (upd H5 D (.dK (putK kvs k z))) else Nx H3) := by
  refine ⟨fun i m H => m = n - i ∧ i ≤ n ∧ Pv i H, ⟨n, by simp, Nat.zero_le _, h0⟩, ?_⟩
  rintro i m H ⟨rfl, hi, p⟩
  by_cases hlt : i < n
  · exact .inr ⟨w.goes i H hlt (hG i H hi p), Pv (i + 1), fun H' p' => ⟨n - (i + 1), by omega, rfl, hlt, p'⟩, fun x H' y => hs i x H H' hlt p (w.yields i H x H' hlt (hG i H hi p) y)⟩
  · have e : i = n := by omega
    subst e
    exact .inl ⟨w.stops H (hG _ H hi p), hd H p⟩
end Lh
set_option Elab.async false
set_option linter.all false
set_option maxRecDepth 100000
set_option maxHeartbeats 4000000
/-! name = {x: c for x in sorted(xs)}, over ints. -/
namespace Lh.P
open PySem PySem.Spec PyProof.Rows L2 _root_.SX
def dcsP (c : Int) (ns : List Int) : List (L2.Key × PV) := ns.foldl (fun ks r => putP' ks (.inl r) (.int c)) []
def bDcs (j : Nat) (c : Int) (f : Env → Rs PV) : Env → Rs PV := fun Γ => if j < Γ.length then (f Γ).bind (fun p => match p with
  | .lst xs => (match asInts xs with
    | some ns => if ns.length ≤ 90000 then .ok (.dic (dcsP c ns)) else .bad
    | none => .bad)
  | _ => .bad) else .bad
theorem putK_len {k : L2.Key} {v : L2.V} {ws : List (L2.Key × L2.V)} : (putK ws k v).length ≤ ws.length + 1 := by
  unfold putK
  split
  · simp
  · simp
section
variable {X : Cx} {W : WX} {M : Md} {V O O1 : List Nat} {e : Expr}
theorem ot_dcs {j : Nat} {c : Int} {f : Env → Rs PV} (h : OX X W V e f) : OT X W V (tDc (iList X.K (tOf X e)) (gName j) tYes (tVar j) (tC (.int c)) [j]) (bDcs j c f) := fun Γ σ H0 H Q sh sm q => by
  have q : Post X.K W σ (gO X.K H Q) H0 H (if j < Γ.length then (f Γ).bind (fun p => match p with
    | .lst xs => (match asInts xs with
      | some ns => if ns.length ≤ 90000 then Rs.ok (PV.dic (dcsP c ns)) else .bad
      | none => .bad)
    | _ => .bad) else .bad) := q
  obtain ⟨hj, q⟩ := post_if q
  have hjs : j < σ.length := by rw [sh.1]; exact hj
  refine h Γ σ H0 H _ sh sm ?_
  cases hf : f Γ with
  | bad => rw [hf] at q; exact q
  | ex C fs => rw [hf] at q; exact q
  | ok p =>
    rw [hf] at q
    cases p with
    | lst xs =>
      have q : Post X.K W σ (gO X.K H Q) H0 H (match asInts xs with
        | some ns => if ns.length ≤ 90000 then Rs.ok (PV.dic (dcsP c ns)) else .bad
        | none => .bad) := q
      cases hn : asInts xs with
      | none => rw [hn] at q; exact False.elim q
      | some ns =>
        rw [hn] at q
        obtain ⟨hl, q⟩ := post_if q
        intro H0' H' gr
        refine ⟨fun s => (by cases s), fun a ha ha0 r => ?_⟩
        obtain ⟨vs, hv, rr⟩ := r
        rw [asInts_eq hn] at rr
        rw [rr.ints] at hv
        refine ⟨a, rfl, ⟨_, SqL.of hv⟩, fun D hD => ?_⟩
        have hne : a ≠ D := fun z => by rw [z, hD] at hv; cases hv
        refine dc_it (g := gName j) (tt := tYes) (tk := tVar j) (tv := tC (.int c)) (vs := [j]) (σ := σ) (Qd := fun H2 => Q (.ref D) H2) (walk_list (xs := ns.map L2.V.int)) (fun i H2 => ∃ ws, RepK X.K H0' (dcsP c (ns.take i)) ws ∧ ws.length ≤ i ∧ H2 = upd H' D (.dK ws)) ⟨[], trivial, Nat.le_refl _, rfl⟩ ?_ ?_ ?_
        · rintro i H2 _ ⟨ws, _, _, rfl⟩
          exact SqL.of (by rw [upd_ne hne]; exact hv)
        · rintro i x H2 H3 hi ⟨ws, rk, wl, rfl⟩ ⟨rfl, hx⟩
          rw [List.getElem?_map] at hx
          obtain ⟨r, hr, rfl⟩ := Option.map_eq_some_iff.mp hx
          have hil := (List.getElem?_eq_some_iff.mp hr).1
          refine ⟨?_, L2.V.int r, ?_, ws, Sum.inl r, rfl, upd_same, limL (by omega), putK ws (Sum.inl r) (.int c), ?_, Nat.le_trans putK_len (by omega), by rw [upd_upd]⟩
          · show (((σ.set j none).set j (some (L2.V.int r))).set j none) = σ.set j none
            rw [List.set_set, List.set_set]
          · show ((σ.set j none).set j (some (L2.V.int r)))[j]? = _
            rw [List.getElem?_set_self (by rw [List.length_set]; exact hjs)]
          · have e : dcsP c (ns.take (i + 1)) = putP' (dcsP c (ns.take i)) (.inl r) (.int c) := by
              unfold dcsP
              rw [List.take_add_one, hr, List.foldl_append]
              rfl
            rw [e]
            exact RepK.put (show Rep X.K H0' (.int c) (.int c) from rfl) rk
        · rintro H2 ⟨ws, rk, wl, rfl⟩
          rw [List.take_of_length_le (by simp)] at rk
          exact (q _ _ (gr.trans (Gr.newO (o := .dK ws) gr.c hD))).2 D (none_back gr.b hD) (none_back gr.c hD) ⟨ws, upd_same, rk⟩
    | _ => exact False.elim q
end
end Lh.P
set_option Elab.async false
set_option linter.all false
set_option maxRecDepth 100000
set_option maxHeartbeats 4000000
/-! Houses as data: doors, what hangs together, doors in the heap. -/
namespace Lh
open PySem PySem.Spec PyProof.Rows L2 SX
/-! ### two lists side by side -/
inductive All2 {α β : Type} (R : α → β → Prop) : List α → List β → Prop
  | nil : All2 R [] []
  | cons {a b l m} : R a b → All2 R l m → All2 R (a :: l) (b :: m)
namespace All2
variable {α β : Type} {R R' : α → β → Prop}
theorem len : ∀ {l : List α} {m : List β}, All2 R l m → l.length = m.length
  | _, _, .nil => rfl
  | _, _, .cons _ t => by rw [List.length_cons, List.length_cons, len t]
theorem app : ∀ {l l' : List α} {m m' : List β}, All2 R l m → All2 R l' m' → All2 R (l ++ l') (m ++ m')
  | _, _, _, _, .nil, h => h
  | _, _, _, _, .cons r t, h => .cons r (app t h)
theorem tak : ∀ {l : List α} {m : List β} (n : Nat), All2 R l m → All2 R (l.take n) (m.take n)
  | _, _, 0, _ => .nil
  | _, _, _ + 1, .nil => .nil
  | _, _, n + 1, .cons r t => .cons r (tak n t)
theorem dro : ∀ {l : List α} {m : List β} (n : Nat), All2 R l m → All2 R (l.drop n) (m.drop n)
  | _, _, 0, h => h
  | _, _, _ + 1, .nil => .nil
  | _, _, n + 1, .cons _ t => dro n t
theorem imp (f : ∀ a b, R a b → R' a b) : ∀ {l : List α} {m : List β}, All2 R l m → All2 R' l m
  | _, _, .nil => .nil
  | _, _, .cons r t => .cons (f _ _ r) (imp f t)
theorem get : ∀ {l : List α} {m : List β} {i : Nat} {b : β}, All2 R l m → m[i]? = some b → ∃ a, l[i]? = some a ∧ R a b
  | _, _, _, _, .nil, h => by simp at h
  | _, _, 0, b, .cons r _, h => by simp at h; subst h; exact ⟨_, rfl, r⟩
  | _, _, i + 1, b, .cons _ t, h => by
    obtain ⟨a, h1, h2⟩ := get (i := i) t (by simpa using h)
    exact ⟨a, by simpa using h1, h2⟩
theorem gtl : ∀ {l : List α} {m : List β} {i : Nat} {a : α}, All2 R l m → l[i]? = some a → ∃ b, m[i]? = some b ∧ R a b
  | _, _, _, _, .nil, h => by simp at h
  | _, _, 0, b, .cons r _, h => by simp at h; subst h; exact ⟨_, rfl, r⟩
  | _, _, i + 1, b, .cons _ t, h => by
    obtain ⟨a, h1, h2⟩ := gtl (i := i) t (by simpa using h)
    exact ⟨a, by simpa using h1, h2⟩
theorem ins {l : List α} {m : List β} (n : Nat) {a : α} {b : β} (h : All2 R l m) (r : R a b) : All2 R (l.take n ++ [a] ++ l.drop n) (m.take n ++ [b] ++ m.drop n) :=
  ((h.tak n).app (.cons r .nil)).app (h.dro n)
theorem put {a : α} {b : β} (r : R a b) : ∀ {l : List α} {m : List β} (n : Nat), All2 R l m → All2 R (l.set n a) (m.set n b)
  | _, _, _, .nil => .nil
  | _, _, 0, .cons _ t => .cons r t
  | _, _, n + 1, .cons q t => .cons q (put r n t)
end All2
theorem ins_perm {α : Type} (l : List α) (n : Nat) (a : α) : (l.take n ++ [a] ++ l.drop n).Perm (a :: l) := by
  rw [List.append_assoc]
  have h : (l.take n ++ a :: l.drop n).Perm (a :: (l.take n ++ l.drop n)) := List.perm_middle
  rw [List.take_append_drop] at h
  exact h
theorem ins_len {α : Type} (l : List α) (n : Nat) (a : α) : (l.take n ++ [a] ++ l.drop n).length = l.length + 1 := by
  rw [(ins_perm l n a).length_eq]
  rfl
theorem ins_mem {α : Type} {l : List α} {n : Nat} {a x : α} : x ∈ l.take n ++ [a] ++ l.drop n ↔ x = a ∨ x ∈ l := by
  rw [(ins_perm l n a).mem_iff, List.mem_cons]
theorem ins_map {α β : Type} (f : α → β) (l : List α) (n : Nat) (a : α) : (l.map f).take n ++ [f a] ++ (l.map f).drop n = (l.take n ++ [a] ++ l.drop n).map f := by
  rw [List.map_append, List.map_append, List.map_take, List.map_drop]
  rfl
/-! ### doors -/
abbrev Door := Int × Int × List Nat
inductive Reach (ds : List Door) : Int → Int → Prop
  | refl (x : Int) : Reach ds x x
  | step {x y z : Int} {c : List Nat} : Reach ds x y → ((y, z, c) ∈ ds ∨ (z, y, c) ∈ ds) → Reach ds x z
theorem Reach.trans {ds : List Door} {x y z : Int} (a : Reach ds x y) (b : Reach ds y z) : Reach ds x z := by
  induction b with
  | refl => exact a
  | step _ h ih => exact .step ih h
theorem Reach.symm {ds : List Door} {x y : Int} (a : Reach ds x y) : Reach ds y x := by
  induction a with
  | refl => exact .refl _
  | step _ h ih => exact (Reach.step (.refl _) h.symm).trans ih
theorem Reach.mono {ds ds' : List Door} {x y : Int} (a : Reach ds x y) (h : ∀ d ∈ ds, ∃ d' ∈ ds', d'.1 = d.1 ∧ d'.2.1 = d.2.1) : Reach ds' x y := by
  induction a with
  | refl => exact .refl _
  | step _ q ih =>
    rcases q with q | q
    · obtain ⟨⟨a, b, c⟩, hd, e1, e2⟩ := h _ q
      cases e1
      cases e2
      exact .step ih (.inl hd)
    · obtain ⟨⟨a, b, c⟩, hd, e1, e2⟩ := h _ q
      cases e1
      cases e2
      exact .step ih (.inr hd)
structure GoodHouse (n : Int) (g : List Nat) (ds : List Door) : Prop where
  n1 : 1 ≤ n
  n16 : n ≤ 16
  len : ds.length ≤ 24
  many : n ≤ ds.length + 1
  ends : ∀ d ∈ ds, 0 ≤ d.1 ∧ d.1 < n ∧ 0 ≤ d.2.1 ∧ d.2.1 < n ∧ d.1 ≠ d.2.1
  cyc : ∀ d ∈ ds, CycOk g d.2.2 ∧ d.2.2.length ≤ 40
  conn : ∀ r, 0 ≤ r → r < n → Reach ds 0 r
/-- a door's tuple -/
def IsDoor (H : Hp) (v : V) (d : Door) : Prop := ∃ r, v = .ref r ∧ H r = some (.tup [.int d.1, .int d.2.1, .str (S d.2.2)])
theorem IsDoor.same {H H' : Hp} (s : Same H H') (v : V) (d : Door) (h : IsDoor H v d) : IsDoor H' v d := by
  obtain ⟨r, e, h⟩ := h
  exact ⟨r, e, s _ _ h⟩
/-! ### the rooms' names: a row of 0 .. k - 1 in some order -/
structure Nm (k : Nat) (xs : List Int) : Prop where
  len : xs.length = k
  mem : ∀ x, x ∈ xs ↔ 0 ≤ x ∧ x < k
  nd : xs.Nodup
theorem Nm.nil : Nm 0 [] := ⟨rfl, fun x => by simp, List.nodup_nil⟩
theorem Nm.more {k : Nat} {xs : List Int} (h : Nm k xs) (n : Nat) : Nm (k + 1) (xs.take n ++ [(k : Int)] ++ xs.drop n) := by
  refine ⟨by rw [ins_len, h.len], fun x => ?_, ?_⟩
  · rw [ins_mem, h.mem]
    omega
  · rw [(ins_perm xs n _).nodup_iff, List.nodup_cons]
    exact ⟨fun q => by have := (h.mem _).mp q; omega, h.nd⟩
theorem Nm.get {k : Nat} {xs : List Int} (h : Nm k xs) {z : Int} (h0 : 0 ≤ z) (h1 : z < k) : ∃ y, atI (xs.map V.int) z = some (.int y) ∧ xs[z.toNat]? = some y ∧ 0 ≤ y ∧ y < k := by
  obtain ⟨y, hy, hy2⟩ := row_at (row := xs) h0 (by rw [h.len]; exact h1)
  exact ⟨y, hy, hy2, (h.mem y).mp (List.mem_of_getElem? hy2)⟩
theorem Nm.ne {k : Nat} {xs : List Int} (h : Nm k xs) {i j : Nat} {x y : Int} (hx : xs[i]? = some x) (hy : xs[j]? = some y) (hij : i ≠ j) : x ≠ y := fun e => by
  subst e
  exact hij (nd_ix h.nd hx hy)
/-! ### the doors that are laid one by one: the first ones join each room to one before it -/
structure Tree (n : Int) (g : List Nat) (m : Int) (xs : List Int) (k : Nat) (ds : List Door) : Prop where
  len : ds.length = k
  ends : ∀ d ∈ ds, 0 ≤ d.1 ∧ d.1 < n ∧ 0 ≤ d.2.1 ∧ d.2.1 < n ∧ d.1 ≠ d.2.1
  cyc : ∀ d ∈ ds, CycOk g d.2.2 ∧ (d.2.2.length : Int) ≤ m
  link : ∀ (j : Nat) (x y : Int), j ≤ k → xs[0]? = some x → xs[j]? = some y → Reach ds x y
theorem Tree.nil {n m : Int} {g : List Nat} {xs : List Int} : Tree n g m xs 0 [] := ⟨rfl, by simp, by simp, fun j x y h hx hy => by
  have : j = 0 := by omega
  subst this
  rw [hx] at hy
  cases hy
  exact .refl _⟩
theorem Tree.more {n m : Int} {g : List Nat} {xs : List Int} {k : Nat} {ds : List Door} (t : Tree n g m xs k ds) (p : Nat) {a b : Int} {c : List Nat} (ha : 0 ≤ a ∧ a < n) (hb : 0 ≤ b ∧ b < n) (hab : a ≠ b) (hc : CycOk g c) (hm : (c.length : Int) ≤ m)
    (hl : ∀ y, xs[k + 1]? = some y → ∃ (j : Nat) (x : Int), j ≤ k ∧ xs[j]? = some x ∧ ((a = x ∧ b = y) ∨ (a = y ∧ b = x))) : Tree n g m xs (k + 1) (ds.take p ++ [(a, b, c)] ++ ds.drop p) := by
  have sub : ∀ {x y : Int}, Reach ds x y → Reach (ds.take p ++ [(a, b, c)] ++ ds.drop p) x y := fun h => h.mono fun d hd => ⟨d, ins_mem.mpr (.inr hd), rfl, rfl⟩
  have new : (a, b, c) ∈ ds.take p ++ [(a, b, c)] ++ ds.drop p := ins_mem.mpr (.inl rfl)
  refine ⟨by rw [ins_len, t.len], fun d hd => ?_, fun d hd => ?_, fun j x y hj hx hy => ?_⟩
  · rcases ins_mem.mp hd with rfl | hd
    · exact ⟨ha.1, ha.2, hb.1, hb.2, hab⟩
    · exact t.ends d hd
  · rcases ins_mem.mp hd with rfl | hd
    · exact ⟨hc, hm⟩
    · exact t.cyc d hd
  · by_cases h : j ≤ k
    · exact sub (t.link j x y h hx hy)
    · have : j = k + 1 := by omega
      subst this
      obtain ⟨i, z, hi, hz, q⟩ := hl y hy
      have r := sub (t.link i x z hi hx hz)
      rcases q with ⟨rfl, rfl⟩ | ⟨rfl, rfl⟩
      · exact r.step (.inl new)
      · exact r.step (.inr new)
theorem Tree.good {n m : Int} {g : List Nat} {xs : List Int} {k : Nat} {ds : List Door} (t : Tree n g m xs k ds) (hn : 1 ≤ n) (hn16 : n ≤ 16) (hx : Nm n.toNat xs) (hk : n ≤ k + 1) (hk24 : k ≤ 24) (hm : m ≤ 40) : GoodHouse n g ds := by
  refine ⟨hn, hn16, by rw [t.len]; exact hk24, by rw [t.len]; exact hk, t.ends, fun d hd => ⟨(t.cyc d hd).1, by have := (t.cyc d hd).2; omega⟩, fun r h0 h1 => ?_⟩
  have e0 : xs[0]? = some (xs[0]'(by rw [hx.len]; omega)) := List.getElem?_eq_getElem _
  have get : ∀ r : Int, 0 ≤ r → r < n → Reach ds (xs[0]'(by rw [hx.len]; omega)) r := fun r h0 h1 => by
    obtain ⟨j, hj⟩ := List.getElem?_of_mem ((hx.mem r).mpr ⟨h0, by omega⟩)
    have hjl : j < xs.length := (List.getElem?_eq_some_iff.mp hj).1
    rw [hx.len] at hjl
    exact t.link j _ r (by omega) e0 hj
  exact (get 0 (by omega) (by omega)).symm.trans (get r h0 h1)
end Lh
namespace Lh
theorem far_ne {n x z : Int} (hx0 : 0 ≤ x) (hx : x < n) (hz0 : 0 ≤ z) (hz : z < n - 1) : (x + 1 + z) % n ≠ x := by
  by_cases h : x + 1 + z < n
  · rw [Int.emod_eq_of_lt (by omega) h]
    omega
  · have e : (x + 1 + z) % n = (x + 1 + z - n) % n := (Int.sub_emod_right _ _).symm
    rw [e, Int.emod_eq_of_lt (by omega) (by omega)]
    omega
end Lh
namespace Lh
open PySem PySem.Spec PyProof.Rows L2 SX
theorem IsDoor.keep {H : Hp} {p : Addr} {o : HO} (hp : ∀ xs, H p ≠ some (.tup xs)) (v : V) (d : Door) (h : IsDoor H v d) : IsDoor (upd H p o) v d := by
  obtain ⟨r, e, h⟩ := h
  refine ⟨r, e, ?_⟩
  rw [upd_ne (fun q => hp _ (by rw [← q]; exact h))]
  exact h
end Lh
set_option Elab.async false
set_option linter.all false
set_option maxRecDepth 100000
set_option maxHeartbeats 4000000
/-! name = [(c, x) for x in d], d a dict with ints for keys. -/
namespace Lh.P
open PySem PySem.Spec PyProof.Rows L2 _root_.SX
/-- what is told for good, with all that is new -/
def wi (H0 H H' : Hp) : Hp := fun x => match H x with
  | none => H' x
  | some _ => H0 x
theorem wi_gr {H0 H H' : Hp} (sm : Same H0 H) (s : Same H H') : Gr H0 H (wi H0 H H') H' := by
  refine ⟨fun a o h => ?_, s, fun a o h => ?_, fun a h => ?_⟩
  · unfold wi
    rw [sm a o h]
    exact h
  · unfold wi at h
    split at h
    · exact h
    · exact s _ _ (sm _ _ h)
  · unfold wi at h
    split at h
    · exact .inr (by assumption)
    · exact .inl h
def keysI : List (L2.Key × PV) → Option (List Int)
  | [] => some []
  | (.inl r, _) :: ks => (keysI ks).map (r :: ·)
  | _ => none
def bKeys (d j : Nat) (c : Int) : Env → Rs PV := fun Γ => match Γ[d]? with
  | some (some (.dic ks)) => (match keysI ks with
    | some ns => if j < Γ.length ∧ ns.length ≤ 90000 then .ok (.lst (ns.map fun r => .tup [.int c, .int r])) else .bad
    | none => .bad)
  | _ => .bad
theorem keysI_rep {K : PySem.W.Frag} {H : Hp} : ∀ {ks : List (L2.Key × PV)} {ws : List (L2.Key × L2.V)} {ns : List Int}, keysI ks = some ns → RepK K H ks ws → ws.map (·.1) = ns.map Sum.inl
  | [], [], ns, e, _ => by cases e; rfl
  | [], _ :: _, _, _, h => False.elim h
  | _ :: _, [], _, _, h => False.elim h
  | (.inl r, x) :: ks, (g, w) :: ws, ns, e, h => by
    obtain ⟨e1, _, h1⟩ := h
    have e : (keysI ks).map (r :: ·) = some ns := e
    obtain ⟨ms, hm, rfl⟩ := Option.map_eq_some_iff.mp e
    rw [List.map_cons, List.map_cons, keysI_rep hm h1]
    congr 1
    exact e1.symm
  | (.inr r, x) :: ks, (g, w) :: ws, ns, e, h => by cases e
/-- a new pair of ints -/
def NewP (H H' : Hp) (D : Addr) (c : Int) (v : L2.V) (r : Int) : Prop := ∃ t, v = .ref t ∧ H' t = some (.tup [.int c, .int r]) ∧ H t = none ∧ t ≠ D
section
variable {X : Cx} {W : WX} {V : List Nat}
theorem reps_new {K : PySem.W.Frag} {H H' G : Hp} {D : Addr} {c : Int} (k : ∀ t o, H' t = some o → H t = none → t ≠ D → G t = some o) : ∀ {refs : List L2.V} {ns : List Int}, All2 (NewP H H' D c) refs ns → Reps K G (ns.map fun r => .tup [.int c, .int r]) refs
  | _, _, .nil => trivial
  | _, _, .cons h t => by
    obtain ⟨a, rfl, h1, h2, h3⟩ := h
    exact ⟨⟨a, _, rfl, k _ _ h1 h2 h3, rfl, rfl, trivial⟩, reps_new k t⟩
theorem ot_keys {d j : Nat} {c : Int} (hd : d ∈ V) (hdj : d ≠ j) : OT X W V (tLockE (tLc (iKeys (tVar d)) (gName j) tYes (tTup (tCons (tC (.int c)) (tCons (tVar j) tNil))) [j])) (bKeys d j c) := fun Γ σ H0 H Q sh sm q => by
  unfold bKeys at q
  split at q
  · rename_i ks hg
    split at q
    · rename_i ns hn
      obtain ⟨⟨hj, hl⟩, q⟩ := post_if q
      have hjs : j < σ.length := by rw [sh.1]; exact hj
      obtain ⟨v, hv, a, ws, rfl, ha, rk⟩ := sh.2 d hd _ hg
      have haH := sm _ _ ha
      have hkeys := keysI_rep hn rk
      have hlen : ws.length = ns.length := by
        have := congrArg List.length hkeys
        simpa using this
      refine ⟨a, .dK ws, haH, trivial, fun od => ⟨_, hv, a, od, rfl, .inl ⟨ws, upd_same, fun D hD => ?_⟩⟩⟩
      have hDa : D ≠ a := fun z => by rw [z, upd_same] at hD; cases hD
      have hDH : H D = none := by rw [upd_ne hDa] at hD; exact hD
      refine lc_it (g := gName j) (tt := tYes) (te := tTup (tCons (tC (.int c)) (tCons (tVar j) tNil))) (vs := [j]) (σ := σ) (walk_keys (kvs := ws)) (fun i H2 => ∃ refs, Same (upd H a (.frz od (.dK ws))) H2 ∧ H2 D = some (.lst refs) ∧ refs.length = i ∧ All2 (NewP H H2 D c) refs (ns.take i)) ⟨[], same_new hD, upd_same, rfl, .nil⟩ ?_ ?_ ?_
      · rintro i H2 _ ⟨refs, s2, _, _, _⟩
        exact s2 _ _ upd_same
      · rintro i x H2 H3 hi ⟨refs, s2, hD2, rl, a2⟩ ⟨rfl, k, w, hkw, rfl⟩
        have hns : i < ns.length := by omega
        have hk : k = Sum.inl ns[i] := by
          have e1 : (ws.map (·.1))[i]? = some k := by rw [List.getElem?_map, hkw]; rfl
          rw [hkeys, List.getElem?_map, List.getElem?_eq_getElem hns] at e1
          exact (Option.some.inj e1).symm
        subst hk
        refine ⟨?_, L2.V.int ns[i], ?_, (by show 2 ≤ sizeLine; decide), fun t ht => ⟨refs, nk hD2 ht, limL (by omega), refs ++ [.ref t], ?_, upd_same, by simp [rl], ?_⟩⟩
        · show (((σ.set j none).set j (some (L2.V.int ns[i]))).set j none) = σ.set j none
          rw [List.set_set, List.set_set]
        · show ((σ.set j none).set j (some (L2.V.int ns[i])))[j]? = _
          rw [List.getElem?_set_self (by rw [List.length_set]; exact hjs)]
        · exact same_upd (same_upd s2 (s2.free ht)) hD
        · have htf := s2.free ht
          have hta : t ≠ a := fun z => by rw [z, upd_same] at htf; cases htf
          have htH : H t = none := by rw [upd_ne hta] at htf; exact htf
          have htD : t ≠ D := fun z => by rw [z, hD2] at ht; cases ht
          rw [List.take_add_one, List.getElem?_eq_getElem hns]
          refine (a2.imp fun v r ⟨b, e1, e2, e3, e4⟩ => ⟨b, e1, ?_, e3, e4⟩).app (.cons ⟨t, rfl, ?_, htH, htD⟩ .nil)
          · rw [upd_ne htD, upd_same]
          · rw [upd_ne e4]
            exact nk e2 ht
      · rintro H2 ⟨refs, s2, hD2, rl, a2⟩
        rw [hlen, List.take_of_length_le (Nat.le_refl _)] at a2
        refine ⟨s2 _ _ upd_same, ?_⟩
        have sH : Same H (upd H2 a (.dK ws)) := fun b o hb => by
          by_cases z : b = a
          · subst z
            rw [haH] at hb
            cases hb
            exact upd_same
          · rw [upd_ne z]
            exact s2 _ _ (by rw [upd_ne z]; exact hb)
        let G : Hp := fun b => if b = D then none else wi H0 H (upd H2 a (.dK ws)) b
        have gw := wi_gr sm sH
        have gD : ∀ b, b ≠ D → G b = wi H0 H (upd H2 a (.dK ws)) b := fun b hb => if_neg hb
        have gr : Gr H0 H G (upd H2 a (.dK ws)) := by
          refine ⟨fun b o hb => ?_, sH, fun b o hb => ?_, fun b hb => ?_⟩
          · have : b ≠ D := fun z => by rw [z] at hb; have := sm _ _ hb; rw [hDH] at this; cases this
            rw [gD b this]
            exact gw.a _ _ hb
          · by_cases z : b = D
            · rw [z] at hb
              have hb : (none : Option HO) = some o := (if_pos rfl).symm.trans hb
              cases hb
            · rw [gD b z] at hb
              exact gw.c _ _ hb
          · by_cases z : b = D
            · rw [z]; exact .inr hDH
            · rw [gD b z] at hb
              exact gw.d _ hb
        refine (q _ _ gr).2 D hDH (if_pos rfl) ⟨refs, by rw [upd_ne hDa]; exact hD2, reps_new (fun t o h1 h2 h3 => ?_) a2⟩
        rw [gD t h3]
        unfold wi
        rw [h2]
        show (upd H2 a (.dK ws)) t = some o
        rw [upd_ne (fun z => by rw [z, haH] at h2; cases h2)]
        exact h1
    · exact False.elim q
  · exact False.elim q
end
end Lh.P
set_option Elab.async false
set_option linter.all false
set_option maxRecDepth 100000
set_option maxHeartbeats 4000000
/-! list(d), d a dict with ints for keys. -/
namespace Lh.P
open PySem PySem.Spec PyProof.Rows L2 _root_.SX
def pListD : List PV → Rs PV
  | [.dic ks] => (match keysI ks with
    | some ns => .ok (.lst (ns.map .int))
    | none => .bad)
  | _ => .bad
theorem keys_vals {ws : List (L2.Key × L2.V)} {ns : List Int} (h : ws.map (·.1) = ns.map Sum.inl) : ws.map (fun kv => L2.kV kv.1) = ns.map L2.V.int := by
  have e : ws.map (fun kv => L2.kV kv.1) = (ws.map (·.1)).map L2.kV := by rw [List.map_map]; rfl
  rw [e, h, List.map_map]
  rfl
theorem reps_keys {K : PySem.W.Frag} {H : Hp} : ∀ ns : List Int, Reps K H (ns.map PV.int) (ns.map L2.V.int)
  | [] => trivial
  | n :: ns => ⟨rfl, reps_keys ns⟩
section
variable {X : Cx}
theorem c_listD (hc : X.calm = true) : CallO X (.type "list") pListD := ⟨_, call_list_dK hc, fun W σ ps vs H0 Hs H Q sHs rs sm hh => by
  match ps, hh with
  | [.dic ks], hh =>
    obtain ⟨v, rfl, r⟩ := reps1 rs
    obtain ⟨a, ws, rfl, ha, rk⟩ := r
    have hh : Post X.K W σ (gO X.K Hs Q) H0 H (match keysI ks with
      | some ns => .ok (.lst (ns.map .int))
      | none => .bad) := hh
    cases hn : keysI ks with
    | none => rw [hn] at hh; exact False.elim hh
    | some ns =>
      rw [hn] at hh
      refine ⟨a, ws, rfl, sm _ _ ha, fun p hp => ?_⟩
      rw [keys_vals (keysI_rep hn rk)]
      exact (hh _ _ (Gr.newO (o := .lst (ns.map L2.V.int)) sm hp)).2 p (none_back sHs hp) (none_back sm hp) ⟨_, upd_same, reps_keys ns⟩⟩
/-- sorted(d), d a dict with ints for keys -/
def pSortedD : List PV → Rs PV
  | [.dic ks] => (match keysI ks with
    | some ns => if ns.length < 64 then .ok (.lst ((srtI ns).map .int)) else .bad
    | none => .bad)
  | _ => .bad
theorem c_sortedD (hc : X.calm = true) : CallO X (.builtin "sorted") pSortedD := ⟨_, call_sortedDI hc, fun W σ ps vs H0 Hs H Q sHs rs sm hh => by
  match ps, hh with
  | [.dic ks], hh =>
    obtain ⟨v, rfl, r⟩ := reps1 rs
    obtain ⟨a, ws, rfl, ha, rk⟩ := r
    have hh : Post X.K W σ (gO X.K Hs Q) H0 H (match keysI ks with
      | some ns => if ns.length < 64 then Rs.ok (PV.lst ((srtI ns).map .int)) else .bad
      | none => .bad) := hh
    cases hn : keysI ks with
    | none => rw [hn] at hh; exact False.elim hh
    | some ns =>
      rw [hn] at hh
      obtain ⟨hl, hh⟩ := post_if hh
      refine ⟨a, ws, ns, rfl, .inl (sm _ _ ha), keysI_rep hn rk, hl, fun ns' p pm up hp => ?_⟩
      have e : ns' = srtI ns := same_up (pm.trans (srtI_perm ns).symm) up (srtI_up ns)
      subst e
      exact (hh _ _ (Gr.newO (o := .lst ((srtI ns).map L2.V.int)) sm hp)).2 p (none_back sHs hp) (none_back sm hp) ⟨_, upd_same, reps_keys _⟩⟩
end
end Lh.P
set_option Elab.async false
set_option linter.all false
set_option maxRecDepth 100000
set_option maxHeartbeats 4000000
/-! xs.count(k), xs a list of ints. -/
namespace Lh.P
open PySem PySem.Spec PyProof.Rows L2 _root_.SX
def isL : PV → Bool
  | .lst _ => true
  | _ => false
def pCntL : PV → PV → Rs PV
  | .lst xs, .int k => (match asInts xs with
    | some ns => .ok (.int (ns.count k : Nat))
    | none => .bad)
  | _, _ => .bad
def bCnt (f g : Env → Rs PV) : Env → Rs PV := fun Γ => (f Γ).bind fun x => if isL x = true then (g Γ).bind fun y => pCntL x y else .bad
section
variable {X : Cx} {W : WX} {V : List Nat} {o e : Expr} {apos cpos : Pos}
theorem x_count {f g : Env → Rs PV} (ho : EX X W V o f) (he : EX X W V e g) (hbase : attributeBase o "count" X.env (eval o X.env) = eval o X.env := by rfl)
    (hfew : ((backTo cpos (starEach [e] X.env)).all (fun x => !x.1) && (backToKw cpos (keywordEach [] X.env)).all (fun x => x.1.isSome) && decide ([e].length + ([] : List Keyword).length + (if ([] : List Keyword).isEmpty then 0 else 1) < 30)) = true := by rfl)
    (hs : starEach [e] X.env = [(false, eval e X.env)] := by rfl) (hline : (apos.endLine == cpos.line) = true := by rfl) : EX X W V (.Call (.Attribute o "count" apos) [e] [] cpos) (bCnt f g) := fun Γ σ H0 H Q sh sm q => by
  refine PE.to (pe_bm PySem.F.plainAttrs_list PySem.F.slot_list_count PySem.F.type_list_count mt_lcount pe_of (pa_cons pe_of pa_nil hs) hbase hfew hline hs rfl) ?_
  refine ho Γ σ H0 H _ sh sm ?_
  have q : Post X.K W σ (gE X.K Q) H0 H ((f Γ).bind fun x => if isL x = true then (g Γ).bind fun y => pCntL x y else .bad) := q
  cases hf : f Γ with
  | bad => rw [hf] at q; exact q
  | ex C fs => rw [hf] at q; exact q
  | ok p =>
    rw [hf] at q
    cases p with
    | lst xs =>
      have q : Post X.K W σ (gE X.K Q) H0 H ((g Γ).bind fun y => pCntL (.lst xs) y) := q
      intro H1 H2 g1 v r
      obtain ⟨a, vs, rfl, ha, rs⟩ := r
      refine ⟨.inl ⟨rfl, vs, SqL.of (g1.c _ _ ha)⟩, ?_⟩
      refine he Γ σ H1 H2 _ (sh.mono g1.a) g1.c ((Post.gr g1 q).step.mono fun y H3 H4 g2 q2 w rw_ => ?_)
      have q2 : Post X.K W σ (gE X.K Q) H3 H4 (pCntL (.lst xs) y) := q2
      cases y with
      | int k =>
        have q2 : Post X.K W σ (gE X.K Q) H3 H4 (match asInts xs with
          | some ns => .ok (.int (ns.count k : Nat))
          | none => .bad) := q2
        cases hn : asInts xs with
        | none => rw [hn] at q2; exact False.elim q2
        | some ns =>
          rw [hn] at q2
          rw [asInts_eq hn] at rs
          refine ⟨a, ns, k, rfl, by rw [show w = .int k from rw_], ?_, pV g2.c q2 rfl⟩
          have := g2.c _ _ (g2.a _ _ ha)
          rw [rs.ints] at this
          exact SqL.of this
      | _ => exact False.elim q2
    | _ => exact False.elim q
end
end Lh.P
set_option Elab.async false
set_option linter.all false
set_option maxRecDepth 100000
set_option maxHeartbeats 4000000
/-! A def that hands back a tuple of a value and a new list; a, xs = such a call: xs may be changed. -/
namespace Lh.P
open PySem PySem.Spec PyProof.Rows L2 _root_.SX
/-- the tuples of a value and a list -/
def pairL : PV → Option (PV × List PV)
  | .tup [x, .lst ys] => some (x, ys)
  | _ => none
theorem pairL_eq {p x : PV} {ys : List PV} (h : pairL p = some (x, ys)) : p = .tup [x, .lst ys] := by
  unfold pairL at h
  split at h
  · cases h; rfl
  · cases h
/-- what is wanted of such a tuple: the list is new -/
def gT2 (K : PySem.W.Frag) (Hs : Hp) (Q : VK) : PV → Hp → Hp → Prop := fun p H0 H => match pairL p with
  | some (x, ys) => ∀ a b v ws, Hs b = none → H0 b = none → H a = some (.tup [v, .ref b]) → Rep K H0 x v → H b = some (.lst ws) → Reps K H0 ys ws → Q (.ref a) H
  | none => False
def RetT (K : PySem.W.Frag) (Z : Zn) (IO : List Nat) (Γ : Env) (p : PV) (Q : VK) : Prop := match pairL p with
  | some (x, ys) => ∀ a b v ws σ H0 H, EnvOk K Z IO H0 H Γ σ → H0 b = none → Z.He b = none → H a = some (.tup [v, .ref b]) → Rep K H0 x v → H b = some (.lst ws) → Reps K H0 ys ws → Q (.ref a) H
  | none => False
def PostT (K : PySem.W.Frag) (W : WX) (Z : Zn) (M : Md) (D : Ends) : Out → Prop
  | .ret p Γ => RetT K Z M.IO Γ p D.rt
  | .exc C fs Γ => ∀ d σ H0 H, EnvOk K Z M.OX H0 H Γ σ → RepX K H0 H fs d → W (.ref C) d σ H
  | _ => False
/-- a suite that ends so -/
def BT (X : Cx) (W : WX) (M : Md) (O : List Nat) (sts : List Stmt) (f : Env → Out) : Prop := ∀ Z Γ σ H0 H D, ioOk Z M → EnvOk X.K Z O H0 H Γ σ → PostT X.K W Z M D (f Γ) → tssOf X sts D σ H
/-- a statement that hands nothing back -/
def noR (f : Env → Out) : Env → Out := fun Γ => match f Γ with
  | .ret _ _ => .bad
  | o => o
def pair2 (fa fb : Env → Rs PV) : Env → Rs (PV × List PV) := fun Γ => (fa Γ).bind fun x => (fb Γ).bind fun q => match q with
  | .lst ys => .ok (x, ys)
  | _ => .bad
def dRet2 (fa fb : Env → Rs PV) : Env → Out := fun Γ => outE (pair2 fa fb Γ) Γ fun z => .ret (.tup [z.1, .lst z.2]) Γ
section
variable {X : Cx} {W : WX} {M : Md} {V O OA O1 : List Nat} {a b e : Expr} {es : List Expr} {st : Stmt} {sts : List Stmt} {pos p2 p : Pos} {x : Str} {ps : List Str} {j k n : Nat} {F : List PV → Rs PV}
theorem bt_cons {f g : Env → Out} (h : SX X W M O OA st f) (hs : BT X W M OA sts g) : BT X W M O (st :: sts) (thenB (noR f) g) := fun Z Γ σ H0 H D io E pp => by
  refine PSs.to (pss_cons ps_of pss_of) (h Z Γ σ H0 H _ io E ?_)
  unfold thenB noR at pp
  cases hf : f Γ with
  | next Γ' =>
    rw [hf] at pp
    exact fun σ' H0' H' E' => hs Z Γ' σ' H0' H' D io E' pp
  | exc C fs Γ' => rw [hf] at pp; exact pp
  | _ => rw [hf] at pp; exact False.elim pp
theorem lentT {α : Type} {Z : Zn} {Γ : Env} {D : Ends} {r : Rs α} {k : α → Out} (pp : PostT X.K W Z M D (outE r Γ k)) : PostS X.K W Z M O {D with nx := fun _ _ => True} (outE r Γ fun _ => .next Γ) := by
  cases r with
  | ok a => exact fun _ _ _ _ => trivial
  | ex C fs =>
    unfold outE at pp ⊢
    dsimp only at pp ⊢
    split at pp
    · rename_i h; rw [if_pos h]; exact pp
    · exact False.elim pp
  | bad => exact False.elim pp
theorem bt_ret {fa fb : Env → Rs PV} (ha : EX X W V a fa) (hb : OX X W V b fb) (hV : ∀ j ∈ V, j ∉ M.IO) (ok : OkO M O) (hs0 : starEach [a, b] X.env = (false, eval a X.env) :: starEach [b] X.env := by rfl) (hs1 : starEach [b] X.env = (false, eval b X.env) :: starEach [] X.env := by rfl) : BT X W M O [.Return (some (.Tuple [a, b] n p2)) pos] (dRet2 fa fb) := fun Z Γ σ H0 H D io E pp => by
  refine PSs.to (pss_one (ps_ret (pe_tup (pa_cons pe_of (pa_cons pe_of pa_nil hs1) hs0)))) ?_
  show tTup (tCons (tOf X a) (tCons (tOf X b) tNil)) σ H D.rt
  refine lend_post (V := V) (R := fun _ H => tTup (tCons (tOf X a) (tCons (tOf X b) tNil)) σ H D.rt) (O' := O) (D := {D with nx := fun _ _ => True}) (k := fun _ => .next Γ)
    (good := fun z H0' H' => ∀ a b v ws, H b = none → H0' b = none → H' a = some (.tup [v, .ref b]) → Rep X.K H0' z.1 v → H' b = some (.lst ws) → Reps X.K H0' z.2 ws → D.rt (.ref a) H') io ok E (lentT pp) (fun j => j ∉ M.IO) (fun j hj _ => hV j hj) (fun H0p sh sm q => ?_) fun z H0' H' hr _ L => ?_
  · refine ha Γ σ H0p H _ sh sm (q.step.mono fun u H1' H1 g1 q1 v r => ?_)
    refine hb Γ σ H1' H1 _ (sh.mono g1.a) g1.c (q1.step.mono fun w H2' H2 g2 q2 => ?_)
    cases w with
    | lst ys =>
      refine ⟨fun s => (by cases s), fun c n n0 rt => ⟨show 2 ≤ sizeLine by decide, fun t ht => ?_⟩⟩
      obtain ⟨ws, e, rs⟩ := rt
      have g3 : Gr H2' H2 H2' (upd H2 t (.tup [v, .ref c])) := Gr.newO g2.c ht
      have ne : c ≠ t := fun z => by rw [z, ht] at e; cases e
      exact q2 _ _ g3 t c v ws (none_back g1.b n) n0 upd_same (r.mono g2.a) (by rw [upd_ne ne]; exact e) rs
    | _ => exact False.elim q2
  · have E2 := L.2.1 M.IO (fun j => ⟨fun z => ⟨ok.ox j (ok.io j z), fun y => y z⟩, fun z => Classical.byContradiction z.2⟩) fun q hq => io q hq
    rw [show dRet2 fa fb Γ = outE (pair2 fa fb Γ) Γ fun z => .ret (.tup [z.1, .lst z.2]) Γ from rfl, hr] at pp
    exact fun a b v ws hb h0 ha rx hl rs => pp a b v ws σ H0' H' E2 h0 (none_back E.b hb) ha rx hl rs
/-- the promise of such a def -/
def spT (K : PySem.W.Frag) (n : Nat) (F : List PV → Rs PV) : Sp := fun vs H Q E => vs.length = n ∧ ∃ ps H0, Reps K H0 ps vs ∧ Same H0 H ∧ Post K (fun cls d _ H => E cls d H) [] (gT2 K H Q) H0 H (F ps)
theorem fn_okT {P : Program} {w : World} {K : PySem.W.Frag} {mg : Str → Option Value} {base : Heap} {N : List Str} {fB : Env → Out} (D : Dfn K mg x st) (S : FnScope N ps (defScope st))
    (hb : ∀ (kV doc pm : Value) (an : Option Addr) (cdv ct : Value) (us : List Value), us.length = ps.length → bindArgs (PySem.W.fnOf x x (defArgs st) (defBody st) (defScope st) .none kV doc pm an cdv ct) ⟨us, []⟩ = pure (ps.zip us))
    (hB : ∀ (f : Addr) (cdv : Value) (A : Around) (outer : List PySem.Env) (s : Shared) (H : Hp) (E : XK), Room k (A.deeper (envOfC x (defScope st) s.heap.objs.size f cdv)) →
      BT (cxOf (L2.CX P w) P w K mg base N x (defScope st) f cdv A outer s H E) (WF E) ⟨[], [], [], false⟩ [] (defBody st) fB) : Cal P w K mg base (L2.CX P w) (k + 1) x ps (spT K ps.length (fnF N ps.length fB)) := by
  refine D.cal S (fun vs H Q E h => h.1) hb fun f cdv A outer s H vs Q E hr h => ⟨_, pss_of, ?_⟩
  obtain ⟨hl, qs, H0, rs, sm, q⟩ := h
  obtain ⟨hq, q⟩ := post_if q
  have hle : qs.length ≤ N.length := by rw [hq]; exact par_le S
  refine hB f cdv A outer s H E hr ⟨H0, H, []⟩ (startE N qs) (L2.start N vs) H0 H _ (fun q hq => by cases hq) (env_start rs sm hle) ?_
  cases hf : fB (startE N qs) with
  | ret p Γ =>
    rw [hf] at q
    have q : ∀ H0' H', Gr H0 H H0' H' → gT2 K H Q p H0' H' := q
    show RetT K ⟨H0, H, []⟩ [] Γ p _
    unfold RetT
    cases hp : pairL p with
    | none =>
      have := q _ _ (Gr.refl sm)
      unfold gT2 at this
      rw [hp] at this
      exact this
    | some z =>
      intro a b v ws σ H0' H' E' h0 hb ha rx hl rs
      have := q _ _ (env_gr E')
      unfold gT2 at this
      rw [hp] at this
      exact this a b v ws hb h0 ha rx hl rs
  | exc C fs Γ =>
    rw [hf] at q
    exact fun d σ H0' H' E' r => q d H0' H' (env_gr E') r
  | next Γ => rw [hf] at q; exact (show gT2 K H Q .non H0 H from q _ _ (Gr.refl sm))
  | _ => rw [hf] at q; exact False.elim q
/-- an expression whose value is such a tuple -/
def TT2 (X : Cx) (W : WX) (V : List Nat) (e : Expr) (f : Env → Rs PV) : Prop := ∀ Γ σ H0 H Q, Shr X.K V H0 Γ σ → Same H0 H → Post X.K W σ (gT2 X.K H Q) H0 H (f Γ) → tOf X e σ H Q
theorem tt_call {fa : Env → Rs (List PV)} (C : Cal X.prog X.w X.K X.mg X.base (L2.CX X.prog X.w) k x ps (spT X.K n F)) (hn : ∀ qs, qs.length ≠ n → F qs = .bad) (hr : Room j X.A) (tk : Takes X W) (ha : AX X W V (e :: es) fa) (hk : k ≤ j := by decide) (hg : Gl X x := by rfl) (hdb : (x == ("__debug__" : Str)) = false := by decide)
    (he : starEach (e :: es) X.env = (false, eval e X.env) :: starEach es X.env := by rfl) (hpl : (backTo pos (starEach es X.env)).any (·.1) = false := by rfl) : TT2 X W V (.Call (.Name x p) (e :: es) [] pos) (bC fa F) := fun Γ σ H0 H Q sh sm q =>
  PE.to (pclS C hr tk pa_of hk hg hdb he hpl) (ha Γ σ H0 H _ sh sm (q.step.mono fun qs H1 H2 g q1 vs rs => ⟨by rw [rs.len]; exact q1.arity hn, qs, H1, rs, g.c, (q1.mono fun a H3 H4 g2 ga => by
    unfold gT2 at ga ⊢
    cases hp : pairL a with
    | none => rw [hp] at ga; exact ga
    | some z => rw [hp] at ga; exact fun a b v ws hb => ga a b v ws (none_back g.b hb)).wf⟩))
def dUnpT (u i : Nat) (f : Env → Rs PV) : Env → Out := fun Γ => outE (f Γ) Γ fun p => match pairL p with
  | some (y, ys) => .next ((Γ.set u (some y)).set i (some (.lst ys)))
  | none => .bad
/-- u, i = such a call -/
theorem s_unpT {u i : Nat} {f : Env → Rs PV} (pr : ∀ te, PE X e te → PS X st (tAsg te (gTup X.K 2 (gCons (gName u) (gCons (gName i) gNil))))) (he : TT2 X W V e f) (hO : ∀ j ∈ O1, j ∈ O ∧ j ∉ V ∧ j ≠ i ∧ j ≠ u) (hI : ∀ j ∈ M.IO, j ∈ O1) (ok : OkO M O) :
    SX X W M O (i :: O1) st (dUnpT u i f) := fun Z Γ σ H0 H D io E pp => by
  refine PS.to (pr _ pe_of) ?_
  show tOf X e σ H fun x H1 => gTup X.K 2 (gCons (gName u) (gCons (gName i) gNil)) x σ H1 D.nx
  refine lend_post (V := V) (R := fun _ H => tOf X e σ H fun x H1 => gTup X.K 2 (gCons (gName u) (gCons (gName i) gNil)) x σ H1 D.nx) io ok E pp (fun j => j ∉ O1) (fun j hj _ z => (hO j z).2.1 hj) (fun H0p sh sm q => he Γ σ H0p H _ sh sm q) fun q H0' H' _ pn L => ?_
  have E2 := L.2.1 O1 (fun j => ⟨fun z => ⟨(hO j z).1, fun y => y z⟩, fun z => Classical.byContradiction z.2⟩) fun q hq => hI _ (io q hq)
  show gT2 X.K H _ q H0' H'
  unfold gT2
  cases hp : pairL q with
  | none => rw [hp] at pn; exact False.elim pn
  | some z =>
    obtain ⟨y, ys⟩ := z
    rw [hp] at pn
    intro a b v ws hb h0 ha rx hl rs
    refine ⟨a, [v, .ref b], rfl, SqT.of ha, rfl, v, [.ref b], rfl, .ref b, [], rfl, rfl, ?_⟩
    have E3 := E2.put (i := u) (fun z => (hO u z).2.2.2 rfl) rx
    refine pn _ _ _ (E3.putO (Hs := H) (fun z => (hO i z).2.2.1 rfl) (p := .lst ys) ⟨ws, hl, rs⟩ h0 (none_back E.b hb) fun j hj q hq sq => ?_)
    have hne : u ≠ j := fun z => (hO j hj).2.2.2 z.symm
    rw [List.getElem?_set_ne hne] at hq ⊢
    exact own_apart E hb j (hO j hj).1 q hq sq
end
end Lh.P
set_option Elab.async false
set_option linter.all false
set_option maxRecDepth 100000
set_option maxHeartbeats 4000000
/-! xs.count(y), xs a list or a tuple of plain data. -/
namespace Lh.P
open PySem PySem.Spec PyProof.Rows L2 _root_.SX
def plainB (ds : List PyData) (d : PyData) : Bool := PyData.plainAll ds && (d.plain && decide (d.depth ≤ 60))
def pCntD (x y : PV) : Rs PV := match dat x, dat y with
  | some (.list ds), some d => if plainB ds d then .ok (.int (ds.countP fun z => PyData.eqv z d : Nat)) else .bad
  | _, _ => .bad
def pCntU (x y : PV) : Rs PV := match dat x, dat y with
  | some (.tuple ds), some d => if plainB ds d then .ok (.int (ds.countP fun z => PyData.eqv z d : Nat)) else .bad
  | _, _ => .bad
def rCntD (K : PySem.W.Frag) (t : Bool) : V → List V → Hp → VK → Prop := fun x xs H Q => ∃ (p : Addr) (vs : List V) (ds : List PyData) (w : V) (d : PyData), x = .ref p ∧ xs = [w] ∧ (if t then SqT K H p vs else SqL K H p vs) ∧ DpAll K H vs ds ∧ Dp K H w d ∧ plainB ds d = true ∧ Q (.int (ds.countP fun z => PyData.eqv z d : Nat)) H
section
variable {X : Cx}
theorem plainB_ok {ds : List PyData} {d : PyData} {n : Nat} (h : plainB ds d = true) (hu : n + 64 < cLine) : PyData.plainAll ds = true ∧ d.plain = true ∧ n + 1 + min (PyData.depthAll ds) d.depth < cLine := by
  unfold plainB at h
  rw [Bool.and_eq_true, Bool.and_eq_true] at h
  have := of_decide_eq_true h.2.2
  exact ⟨h.1, h.2.1, by omega⟩
theorem mt_cntL (hu : X.A.units + 64 < cLine) (hd : ∀ {s : Shared} {pins : List (Addr × Obj)} {σ : L2.St} {H : Hp}, Inv X pins σ H s → True := fun _ => trivial) : MtR X "list.count" (rCntD X.K false) := fun pins s σ H x xs v us Q I rx rxs h => by
  obtain ⟨p, vs, ds, w, d, rfl, rfl, hs, a, b, c, q⟩ := h
  cases rx
  obtain ⟨u, rfl, ru⟩ := rxs.one
  obtain ⟨its, rv, hl, _⟩ := I.list hs
  obtain ⟨as, r1⟩ := Dp.readsAll I ds vs its a rv
  obtain ⟨bs, r2⟩ := Dp.reads I d w u b ru
  obtain ⟨c1, c2, c3⟩ := plainB_ok c hu
  exact SeqAt.count_list_data hl.isList (by simpa using r1) r2 c1 c2 c3 ⟨.int (ds.countP fun z => PyData.eqv z d : Nat), H, I.tok _, ⟨_, rfl⟩, q⟩
theorem mt_cntT (hu : X.A.units + 64 < cLine) : MtR X "tuple.count" (rCntD X.K true) := fun pins s σ H x xs v us Q I rx rxs h => by
  obtain ⟨p, vs, ds, w, d, rfl, rfl, hs, a, b, c, q⟩ := h
  cases rx
  obtain ⟨u, rfl, ru⟩ := rxs.one
  obtain ⟨its, rv, hl, _⟩ := I.tuple hs
  obtain ⟨as, r1⟩ := Dp.readsAll I ds vs its a rv
  obtain ⟨bs, r2⟩ := Dp.reads I d w u b ru
  obtain ⟨c1, c2, c3⟩ := plainB_ok c hu
  exact SeqAt.count_tuple_data hl (by simpa using r1) r2 c1 c2 c3 ⟨.int (ds.countP fun z => PyData.eqv z d : Nat), H, I.tok _, ⟨_, rfl⟩, q⟩
end
section
variable {X : Cx} {W : WX} {V : List Nat} {o e : Expr} {apos cpos : Pos}
def bCntD (f g : Env → Rs PV) : Env → Rs PV := fun Γ => (f Γ).bind fun x => if isL x = true then (g Γ).bind fun y => pCntD x y else .bad
theorem x_countD (hu : X.A.units + 64 < cLine) {f g : Env → Rs PV} (ho : EX X W V o f) (he : EX X W V e g) (hbase : attributeBase o "count" X.env (eval o X.env) = eval o X.env := by rfl)
    (hfew : ((backTo cpos (starEach [e] X.env)).all (fun x => !x.1) && (backToKw cpos (keywordEach [] X.env)).all (fun x => x.1.isSome) && decide ([e].length + ([] : List Keyword).length + (if ([] : List Keyword).isEmpty then 0 else 1) < 30)) = true := by rfl)
    (hs : starEach [e] X.env = [(false, eval e X.env)] := by rfl) (hline : (apos.endLine == cpos.line) = true := by rfl) : EX X W V (.Call (.Attribute o "count" apos) [e] [] cpos) (bCntD f g) := fun Γ σ H0 H Q sh sm q => by
  refine PE.to (pe_bm PySem.F.plainAttrs_list PySem.F.slot_list_count PySem.F.type_list_count (mt_cntL hu) pe_of (pa_cons pe_of pa_nil hs) hbase hfew hline hs rfl) ?_
  refine ho Γ σ H0 H _ sh sm ?_
  have q : Post X.K W σ (gE X.K Q) H0 H ((f Γ).bind fun x => if isL x = true then (g Γ).bind fun y => pCntD x y else .bad) := q
  cases hf : f Γ with
  | bad => rw [hf] at q; exact q
  | ex C fs => rw [hf] at q; exact q
  | ok p =>
    rw [hf] at q
    cases p with
    | lst xs =>
      have q : Post X.K W σ (gE X.K Q) H0 H ((g Γ).bind fun y => pCntD (.lst xs) y) := q
      intro H1 H2 g1 v r
      obtain ⟨a, vs, rfl, ha, rs⟩ := r
      refine ⟨.inl ⟨rfl, vs, SqL.of (g1.c _ _ ha)⟩, ?_⟩
      refine he Γ σ H1 H2 _ (sh.mono g1.a) g1.c ((Post.gr g1 q).step.mono fun y H3 H4 g2 q2 w rw_ => ?_)
      have q2 : Post X.K W σ (gE X.K Q) H3 H4 (match dat (.lst xs), dat y with
        | some (.list ds), some d => if plainB ds d then .ok (.int (ds.countP fun z => PyData.eqv z d : Nat)) else .bad
        | _, _ => .bad) := q2
      cases hx : dats xs with
      | none =>
        have hx' : dat (.lst xs) = none := by unfold dat; rw [hx]
        rw [hx'] at q2
        exact False.elim q2
      | some ds =>
        have hx' : dat (.lst xs) = some (.list ds) := by unfold dat; rw [hx]
        rw [hx'] at q2
        cases hy : dat y with
        | none => rw [hy] at q2; exact False.elim q2
        | some d =>
          rw [hy] at q2
          obtain ⟨hp, q3⟩ := post_if q2
          exact ⟨a, vs, ds, w, d, rfl, rfl, SqL.of (g2.c _ _ (g2.a _ _ ha)), DpAll.same (g2.a.trans g2.c) (dps_of xs vs ds rs hx), Dp.same g2.c (dp_of y w d rw_ hy), hp, pV g2.c q3 rfl⟩
    | _ => exact False.elim q
end
end Lh.P
set_option Elab.async false
set_option linter.all false
set_option maxRecDepth 100000
set_option maxHeartbeats 4000000
/-! try with two clauses, the second of which names the error. -/
namespace Lh
open PySem PySem.Spec PyProof.Rows L2
/-- an error has come down in the frame that catches it: h its heap -/
structure Down (X : Cx) (pins : List (Addr × Obj)) (B : Heap) (a : Addr) (cls : Value) (d : Option Addr) (σ : L2.St) (H : Hp) (sI s : Shared) (h : Heap) : Prop where
  inv : Inv X pins σ H sI
  hs : X.stack = X.env :: X.outer
  nb : ∀ b o, sI.heap.get? b = some o → b ∉ frs X.stack → B.get? b = some o
  up : sI.heap.UpToSlots h
  fl : HandSPX.FlyingZ B (X.env :: X.outer) a (Zc cls d) h
  na : H a = none
  os : s.os = sI.os
  ag : AllBare s.gens
section
variable {X : Cx} {pins : List (Addr × Obj)} {B : Heap} {a : Addr} {cls c : Value} {d : Option Addr} {σ : L2.St} {H : Hp} {sI s : Shared} {h : Heap} {x n : Str} {i : Nat} {np pos' : Pos}
theorem Down.here (T : Down X pins B a cls d σ H sI s h) : Inv X pins σ H { s with heap := h } := T.inv.landed T.nb T.fl.1 T.up T.os T.ag
theorem Down.suite (T : Down X pins B a cls d σ H sI s h) (hf : X.env.frame = some X.env.locals) : ∃ oe, h.get? a = some oe ∧ Zc cls d oe ∧ (∃ vs, oe.data = .fields vs) ∧ Inv (X.suite a ((a, oe) :: (X.pn ++ pins))) [] σ H { s with heap := h } := by
  obtain ⟨oe, vs, he, hz, hd⟩ := T.fl.there
  have out : a ∉ frs (X.env :: X.outer) := fun hm => by
    obtain ⟨_, o, ho, hne⟩ := T.fl.2.2.1.mem hm
    cases he.symm.trans ho
    exact hne _ hd
  refine ⟨oe, he, hz, ⟨vs, hd⟩, T.here.suite he hd T.na (fun z => out ?_) fun hm => out ?_⟩
  · exact List.mem_filterMap.mpr ⟨X.env, List.mem_cons_self, z ▸ hf⟩
  · obtain ⟨e, he, q⟩ := List.mem_filterMap.mp hm
    exact List.mem_filterMap.mpr ⟨e, List.mem_cons_of_mem _ he, q⟩
/-- what the clause's class says of it -/
theorem Down.asks (T : Down X pins B a cls d σ H sI s h) (hf : X.env.frame = some X.env.locals) (hc : Names X x c) {b : Bool} (hb : PySem.W.exmOne X.K cls c = some b) {Q : Bool → Shared → Prop} {R R' : Value → Shared → Prop} (k : Q b { s with heap := h }) :
    wpAny (model X.prog X.w) (X.A.mark (some (.ref a))) (eval (.Name x np) X.env) (fun c' s1 => wpAny (model X.prog X.w) (X.A.mark (some (.ref a))) (excMatches (.ref a) c') Q R s1) R' { s with heap := h } := by
  obtain ⟨oe, he, hz, hd, S⟩ := T.suite hf
  have ty : PySem.W.Looks (model X.prog X.w) h (typeOf (.ref a)) cls := fun A Q E s k q => wpAny_typeOf_ref (k _ _ he) (by rw [hz.1]; exact q)
  have fin := (PySem.W.exm_one (M := model X.prog X.w) T.here.kIn ty hb).here (A := X.A.mark (some (.ref a))) (E := R) k
  rcases hc with ⟨g, nd, m | ⟨m, u, nn⟩⟩
  · exact ld_glob (X := X.suite a ((a, oe) :: (X.pn ++ pins))) S g m fin nd
  · exact ld_blt (X := X.suite a ((a, oe) :: (X.pn ++ pins))) S g m u fin nn nd
/-- it is none of this clause's -/
theorem Down.skip (T : Down X pins B a cls d σ H sI s h) (hf : X.env.frame = some X.env.locals) (hc : Names X x c) (hb : PySem.W.exmOne X.K cls c = some false) {nm : Option Str} {su : List Stmt} {hds : List ExceptHandler} {Q : Flow → Shared → Prop} {R : Value → Shared → Prop}
    (k : wpAny (model X.prog X.w) X.A (handleBy (.ref a) X.env hds) Q R { s with heap := h }) : wpAny (model X.prog X.w) X.A (handleBy (.ref a) X.env (.ExceptHandler (some (.Name x np)) nm su pos' :: hds)) Q R { s with heap := h } :=
  wpAny_handleBy_cons (codeAny_handlers_test (T.asks hf hc hb k)) nofun
variable {D : Ends} {b₀ : Stmt} {su : List Stmt} {hds : List ExceptHandler} {ts : Addr → Value → Option Addr → TS}
/-- a clause without a name -/
theorem Down.plain (T : Down X pins B a cls d σ H sI s h) (ok : X.Ok) (hf : X.env.frame = some X.env.locals) (hc : Names X x c) (hb : PySem.W.exmOne X.K cls c = some true)
    (hsu : ∀ (a : Addr) (oe : Obj) (cls : Value) (d : Option Addr) (pn : List (Addr × Obj)), Zc cls d oe → (∃ vs, oe.data = .fields vs) → PSs (X.suite a ((a, oe) :: pn)) (b₀ :: su) (ts a cls d)) (k : ts a cls d D σ H) :
    wpAny (model X.prog X.w) X.A (handleBy (.ref a) X.env (.ExceptHandler (some (.Name x np)) none (b₀ :: su) pos' :: hds)) (SP X pins D) X.xe { s with heap := h } := by
  refine wpAny_handleBy_cons (codeAny_handlers_test (T.asks hf hc hb ?_)) nofun
  refine codeAny_handlers_suite (HandSPX.lands_againZ T.fl fun h4 fl4 up4 => ?_)
  obtain ⟨oe, _, hz, hd, S⟩ := Down.suite { T with up := T.up.trans up4, fl := fl4 } hf
  refine wpAny_mono ((hsu a oe cls d (X.pn ++ pins) hz hd).run [] _ _ H _ S k) (fun f s6 p => ?_) fun _ _ z => z.elim
  cases f <;> first
    | exact (let ⟨_, _, S6, q⟩ := p; ⟨_, _, S6.unsuite ok, q⟩)
    | exact (let ⟨_, _, _, S6, r, q⟩ := p; ⟨_, _, _, S6.unsuite ok, r, q⟩)
/-- a clause that names the error -/
theorem Down.named (T : Down X pins B a cls d σ H sI s h) (ok : X.Ok) (hf : X.env.frame = some X.env.locals) (hN : X.N.Nodup) (hi : X.N[i]? = some n) (hln : X.env.kindOf n = some .local) (hc : Names X x c) (hb : PySem.W.exmOne X.K cls c = some true)
    (hsu : ∀ (a : Addr) (oe : Obj) (cls : Value) (d : Option Addr) (pn : List (Addr × Obj)), Zc cls d oe → (∃ vs, oe.data = .fields vs) → PSs (X.suite a ((a, oe) :: pn)) (b₀ :: su) (ts a cls d))
    (k : ts a cls d ⟨fun σ H => D.nx (σ.set i none) H, D.rt, fun σ H => D.bk (σ.set i none) H, fun σ H => D.ct (σ.set i none) H⟩ (σ.set i (some (.ref a))) H) :
    wpAny (model X.prog X.w) X.A (handleBy (.ref a) X.env (.ExceptHandler (some (.Name x np)) (some n) (b₀ :: su) pos' :: hds)) (SP X pins D) X.xe { s with heap := h } := by
  refine wpAny_handleBy_cons (codeAny_handlers_test (T.asks hf hc hb ?_)) nofun
  refine codeAny_handlers_suite_as (HandSPX.lands_againZ T.fl fun h4 fl4 up4 => ?_)
  obtain ⟨oe, _, hz, hd, S⟩ := Down.suite { T with up := T.up.trans up4, fl := fl4 } hf
  refine store_ok (X := X.suite a ((a, oe) :: (X.pn ++ pins))) (v := .ref a) S hN hi (.inl hln) rfl (fun s5 S5 => ?_) (.inr hln)
  refine wpAny_mono ((hsu a oe cls d (X.pn ++ pins) hz hd).run [] s5 _ H _ S5 k) (fun f s6 p => ?_) fun _ _ z => z.elim
  cases f <;> first
    | exact (let ⟨_, _, S6, q⟩ := p; gone_ok (S6.unsuite ok) hN hi hln fun s7 J => ⟨_, _, J, q⟩)
    | exact (let ⟨_, _, _, S6, r, q⟩ := p; gone_ok (S6.unsuite ok) hN hi hln fun s7 J => ⟨_, _, _, J, r, q⟩)
/-- no clause is left -/
theorem Down.off {Wout : WX} (T : Down X pins B a cls d σ H sI s h) (hf : X.env.frame = some X.env.locals) (tk : Takes X Wout) (w : Wout cls d σ H) {Q : Flow → Shared → Prop} : wpAny (model X.prog X.w) X.A (handleBy (.ref a) X.env []) Q X.xe { s with heap := h } := by
  have up : wpAny (model X.prog X.w) X.A (setFlight (.ref a) X.env.frame) (fun _ s4 => wpAny (model X.prog X.w) X.A (throw (.ref a) : Sem Flow) Q X.xe s4) X.xe { s with heap := h } := by
    rw [hf]
    exact HandSPX.setFlight_upZ T.fl fun h4 hh up4 => wpAny_throw (tk _ _ ⟨a, B, sI, pins, σ, H, cls, d, rfl, T.inv, T.nb, T.up.trans up4, .inr (.inr (T.hs ▸ hh)), T.na, T.os, T.ag, w⟩)
  obtain ⟨_, _, _, oe, vs, t, ot, us, he, _, hd, h1, _⟩ := id T.fl
  refine wpAny_handleBy_nil ?_
  unfold PySem.passOn
  refine wpAny_bind (wpAny_field he hd h1 ?_)
  have nn : ¬ ((Value.ref t == Value.none) = true) := by simp
  rw [if_neg nn]
  first
    | exact wpAny_bind up
    | exact wpAny_bind (wpAny_pure (wpAny_bind up))
/-- what the first clause wishes -/
def wTwo (K : PySem.W.Frag) (c : Value) (ts : Addr → Value → Option Addr → TS) (W2 : WX) (D : Ends) : WX := fun cls d σ H => ∃ b, PySem.W.exmOne K cls c = some b ∧ if b = true then ∀ a, H a = none → ts a cls d D σ H else W2 cls d σ H
theorem ps_try_two {x2 : Str} {c2 : Value} {b2 : Stmt} {su2 body : List Stmt} {np2 pos2 pos : Pos} {tb : WX → TS} {ts2 : Addr → Value → Option Addr → TS} {Wout : WX} (hs : X.stack = X.env :: X.outer) (hf : X.env.frame = some X.env.locals) (hN : X.N.Nodup) (hi : X.N[i]? = some n) (hln : X.env.kindOf n = some .local) (hc : Names X x c) (hc2 : Names X x2 c2) (tk : Takes X Wout)
    (hb : ∀ (W : WX) (pn : List (Addr × Obj)) (xe : Value → Shared → Prop), Takes (X.tr pn xe) W → PassesOwn (model X.prog X.w) X.A X.env xe → PSs (X.tr pn xe) body (tb W))
    (hsu : ∀ (a : Addr) (oe : Obj) (cls : Value) (d : Option Addr) (pn : List (Addr × Obj)), Zc cls d oe → (∃ vs, oe.data = .fields vs) → PSs (X.suite a ((a, oe) :: pn)) (b₀ :: su) (ts a cls d))
    (hsu2 : ∀ (a : Addr) (oe : Obj) (cls : Value) (d : Option Addr) (pn : List (Addr × Obj)), Zc cls d oe → (∃ vs, oe.data = .fields vs) → PSs (X.suite a ((a, oe) :: pn)) (b2 :: su2) (ts2 a cls d)) :
    PS X (.Try body [.ExceptHandler (some (.Name x np)) none (b₀ :: su) pos', .ExceptHandler (some (.Name x2 np2)) (some n) (b2 :: su2) pos2] [] [] pos) (fun D σ H => tb (wTwo X.K c ts (wAs X.K c2 i ts2 Wout D) D) D σ H) :=
  ⟨fun pins s σ H D I q => by
    have ok := I.ok
    refine wpAny_Try_except (wpAny_mono ((hb _ (X.pn ++ pins) _ (fun u s' xx => ?_) PassesOwn.looking).run [] s σ H D (I.toTry _) q) (fun f s1 p => ?_) fun e s1 he => he)
    · obtain ⟨a, B, sI, _, σ', H', cls, d, rfl, J, nb, up, sky, na, os, ag, b, hb, w⟩ := xx
      refine Sky.land Zc.steady (by rw [ok.frames, hs]) hf (show Sky B (X.env :: X.outer) a (Zc cls d) X.env.locals s'.heap from hs ▸ sky) fun h fl up2 => ?_
      have T : Down X pins B a cls d σ' H' sI s' h := ⟨J.ofTry ok, hs, nb, up.trans up2, fl, na, os, ag⟩
      cases b with
      | true => exact T.plain ok hf hc hb hsu (w a na)
      | false =>
        refine T.skip hf hc hb ?_
        obtain ⟨b, hb, y, n⟩ := w
        cases b with
        | true => exact T.named ok hf hN hi hln hc2 hb hsu2 (y rfl a na)
        | false => exact T.skip hf hc2 hb (T.off hf tk (n rfl))
    · cases f <;> first
        | exact (let ⟨_, _, J, q⟩ := p; wpAny_execs_nil ⟨_, _, J.ofTry ok, q⟩)
        | exact (let ⟨_, _, J, q⟩ := p; ⟨_, _, J.ofTry ok, q⟩)
        | exact (let ⟨_, _, _, J, r, q⟩ := p; ⟨_, _, _, J.ofTry ok, r, q⟩)⟩
end
end Lh
set_option Elab.async false
set_option linter.all false
set_option maxRecDepth 100000
set_option maxHeartbeats 4000000
/-! try with two clauses, the second of which names the error. -/
namespace Lh.P
open PySem PySem.Spec PyProof.Rows L2 _root_.SX
noncomputable def dTry2 (A : Ad) (i : Nat) (x1 : Str) (f h : Env → Out) (x2 : Str) (g : Addr → Addr → Option Addr → Env → Out) : Env → Out := fun Γ => match f Γ with
  | .exc C fs Γ' => (match A.isa C x1 with
    | some true => noX (h Γ')
    | some false => dTryE A i x2 (fun _ => .exc C fs Γ') g Γ
    | none => .bad)
  | o => o
section
variable {X : Cx} {W : WX} {M : Md} {V O O' : List Nat} {body suite su1 : List Stmt} {b₀ b1 : Stmt} {pos pos' pos1 np np1 : Pos} {x x1 n : Str} {i : Nat} {A : Ad}
/-- what the clause with a name wants of an error -/
theorem as_ok {Z : Zn} {D : Ends} {C : Addr} {fs : List (Str × PV)} {Γ Γ' : Env} {g : Addr → Addr → Option Addr → Env → Out} {d : Option Addr} {σ' : L2.St} {H0' H' : Hp} (hE : Errs X.K X.mg A)
    (hh : ∀ (a C : Addr) (d : Option Addr) (oe : Obj) (pn : List (Addr × Obj)), Zc (.ref C) d oe → (∃ vs, oe.data = .fields vs) → BX (X.suite a ((a, oe) :: pn)) W0 M M.OX O' (b₀ :: suite) (g a C d))
    (i1 : i ∉ O') (i2 : i ∉ M.IO) (i3 : i ∉ M.OL) (i4 : i ∉ M.OX) (io : ioOk Z M) (p : PostS X.K W Z M O' D (dTryE A i x (fun _ => .exc C fs Γ') g Γ)) (E' : EnvOk X.K Z M.OX H0' H' Γ' σ') (rx : RepX X.K H0' H' fs d) : wAs X.K (.ref (A x)) i (tsuOf X (b₀ :: suite)) W D (.ref C) d σ' H' := by
  unfold dTryE at p
  dsimp only at p
  cases ha : A.isa C x with
  | none => rw [ha] at p; exact False.elim p
  | some b =>
    rw [ha] at p
    refine ⟨b, hE.isa C x b ha, fun hb1 a na oe pn hz hfl => ?_, fun hb1 => ?_⟩
    · subst hb1
      dsimp only at p
      split at p
      · rename_i hc
        obtain ⟨e1, e2⟩ := hc
        rcases rx with ⟨h1, h2⟩ | ⟨dx, gs, h1, h2, h3, h4⟩
        · subst h1 h2
          rw [← e1 a none (by simp)] at p
          exact hh a C none oe pn hz hfl Z _ _ H0' H' _ io (E'.put i4 (show Rep X.K H0' (.exr a C none []) (.ref a) from ⟨rfl, .inl ⟨rfl, rfl⟩⟩)) (p.strip i1 i2 i3)
        · subst h1
          have e2 := e2.resolve_left h4
          have k := e1 a (some dx) (by simp [h4])
          rw [← k] at p e2
          obtain ⟨s0, E2⟩ := E'.tell h2
          exact hh a C (some dx) oe pn hz hfl { Z with H00 := upd H0' dx (.xd gs) } _ _ _ H' _ io (E2.put i4 (show Rep X.K (upd H0' dx (.xd gs)) (.exr a C (some dx) fs) (.ref a) from ⟨rfl, .inr ⟨dx, gs, rfl, upd_same, RepF.mono s0 _ _ h3⟩⟩)) (p.strip2 E' h2 i1 i2 i3 e2)
      · exact False.elim p
    · subst hb1
      exact p d σ' H0' H' E' rx
theorem s_try2 {f h : Env → Out} {g : Addr → Addr → Option Addr → Env → Out} (hE : Errs X.K X.mg A) (hN : X.N.Nodup) (hi : X.N[i]? = some n) (hln : X.env.kindOf n = some .local) (hc1 : Names X x1 (.ref (A x1))) (hc : Names X x (.ref (A x))) (tk : Takes X W)
    (hB : ∀ (W' : WX) (pn : List (Addr × Obj)) (xe : Value → Shared → Prop), Takes (X.tr pn xe) W' → PassesOwn (model X.prog X.w) X.A X.env xe → BX (X.tr pn xe) W' M O O' body f)
    (h1 : ∀ (a : Addr) (oe : Obj) (cls : Value) (d : Option Addr) (pn : List (Addr × Obj)), Zc cls d oe → (∃ vs, oe.data = .fields vs) → BX (X.suite a ((a, oe) :: pn)) W0 M M.OX O' (b1 :: su1) h)
    (hh : ∀ (a C : Addr) (d : Option Addr) (oe : Obj) (pn : List (Addr × Obj)), Zc (.ref C) d oe → (∃ vs, oe.data = .fields vs) → BX (X.suite a ((a, oe) :: pn)) W0 M M.OX O' (b₀ :: suite) (g a C d))
    (i1 : i ∉ O') (i2 : i ∉ M.IO) (i3 : i ∉ M.OL) (i4 : i ∉ M.OX) (hs : X.stack = X.env :: X.outer := by rfl) (hf : X.env.frame = some X.env.locals := by rfl) : SX X W M O O' (.Try body [.ExceptHandler (some (.Name x1 np1)) none (b1 :: su1) pos1, .ExceptHandler (some (.Name x np)) (some n) (b₀ :: suite) pos'] [] [] pos) (dTry2 A i x1 f h x g) := fun Z Γ σ H0 H D io E p => by
  refine PS.to (Lh.ps_try_two hs hf hN hi hln hc1 hc tk tb_ok ts_ok ts_ok) ?_
  intro pn xe tk2 pa
  refine hB _ pn xe tk2 pa Z Γ σ H0 H D io E ?_
  show PostS X.K _ Z M O' D (f Γ)
  unfold dTry2 at p
  cases hf : f Γ with
  | exc C fs Γ' =>
    rw [hf] at p
    dsimp only at p
    intro d σ' H0' H' E' rx
    cases ha : A.isa C x1 with
    | none => rw [ha] at p; exact False.elim p
    | some b =>
      rw [ha] at p
      refine ⟨b, hE.isa C x1 b ha, ?_⟩
      cases b with
      | true => exact fun a na oe pn hz hfl => h1 a oe _ d pn hz hfl Z Γ' σ' H0' H' D io E' p.noX
      | false => exact as_ok hE hh i1 i2 i3 i4 io p E' rx
  | _ => rw [hf] at p; exact p
end
end Lh.P
set_option Elab.async false
set_option linter.all false
set_option maxRecDepth 100000
set_option maxHeartbeats 4000000
/-! -x of an instance whose class says what that is. -/
namespace Lh.P
open PySem PySem.Spec PyProof.Rows L2 _root_.SX
/-- the class at C: what its __neg__ hands back -/
structure Neg (P : Program) (w : World) (K : PySem.W.Frag) (mg : Str → Option Value) (base : Heap) (k : Nat) (C : Addr) (F : List PV → Rs PV) : Prop where
  ex : ∃ f fd, FnOk P w K mg base (L2.CX P w) k f fd ["self"] (spO K 1 F) ∧ PySem.W.findIn K (.ref C) "__neg__" = some (some (.ref f)) ∧ PySem.W.isFn K (.ref f) = true ∧ Binds K fd ["self"] []
/-- .. as the head tells it -/
structure NegDef (K : PySem.W.Frag) (qual : Str) (C : Addr) (st : Stmt) : Prop where
  ex : ∃ f fd, FunD K "__neg__" qual (defArgs st) (defBody st) (defScope st) [] [] f fd ∧ PySem.W.findIn K (.ref C) "__neg__" = some (some (.ref f)) ∧ PySem.W.isFn K (.ref f) = true
section
variable {P : Program} {w : World} {K : PySem.W.Frag} {mg : Str → Option Value} {base : Heap} {N ps : List Str} {x qual : Str} {st : Stmt} {k : Nat} {C f : Addr} {fd : FuncData} {fB : Env → Out}
/-- a method that hands back something new -/
theorem me_okO (F : FunD K x qual (defArgs st) (defBody st) (defScope st) [] [] f fd) (S : FnScope N ps (defScope st))
    (hB : ∀ (cdv : Value) (A : Around) (outer : List PySem.Env) (s : Shared) (H : Hp) (E : XK), Room k (A.deeper (envOfC qual (defScope st) s.heap.objs.size f cdv)) →
      BX (cxOf (L2.CX P w) P w K mg base N qual (defScope st) f cdv A outer s H E) (WF E) ⟨[], [], [], true⟩ [] [] (defBody st) fB) : FnOk P w K mg base (L2.CX P w) (k + 1) f fd ps (spO K ps.length (fnO N ps.length fB)) :=
  F.ok S (fun vs H Q E h => h.1) fun cdv A outer s H vs Q E hr h => ⟨_, pss_of, by
    obtain ⟨_, qs, H0, rs, sm, q⟩ := h
    obtain ⟨hq, q⟩ := post_if q
    refine hB cdv A outer s H E hr ⟨H0, H, []⟩ (startE N qs) (L2.start N vs) H0 H _ (fun q hq => by cases hq) (env_start rs sm (by rw [hq]; exact par_le S)) ?_
    cases e : fB (startE N qs) with
    | brk Γ => rw [e] at q; exact False.elim q
    | cont Γ => rw [e] at q; exact False.elim q
    | bad => rw [e] at q; exact False.elim q
    | next Γ => rw [e] at q; exact fun σ H1 H2 E' => (q H1 H2 (env_gr E')).1 rfl _ rfl
    | exc D fs Γ => rw [e] at q; exact fun d σ H1 H2 E' r => q d H1 H2 (env_gr E') r
    | ret p Γ =>
      rw [e] at q
      exact ⟨fun s v σ H1 H2 E' r => (q H1 H2 (env_gr E')).1 s v r, fun a σ H1 H2 E' n0 n r => (q H1 H2 (env_gr E')).2 a n n0 r⟩⟩
theorem neg_of (D : NegDef K qual C st) (S : FnScope N ["self"] (defScope st))
    (hb : ∀ (kV doc pm : Value) (an : Option Addr) (cdv ct : Value) (us : List Value), us.length = 1 → bindArgs (PySem.W.fnOf "__neg__" qual (defArgs st) (defBody st) (defScope st) .none kV doc pm an cdv ct) ⟨us, []⟩ = pure ((["self"] : List Str).zip us))
    (hB : ∀ (f : Addr) (cdv : Value) (A : Around) (outer : List PySem.Env) (s : Shared) (H : Hp) (E : XK), Room k (A.deeper (envOfC qual (defScope st) s.heap.objs.size f cdv)) →
      BX (cxOf (L2.CX P w) P w K mg base N qual (defScope st) f cdv A outer s H E) (WF E) ⟨[], [], [], true⟩ [] [] (defBody st) fB) : Neg P w K mg base (k + 1) C (fnO N 1 fB) := by
  obtain ⟨f, fd, F, h1, h2⟩ := D.ex
  exact ⟨f, fd, me_okO F S (hB f), h1, h2, F.bindsN hb⟩
end
def pNegI (C : Addr) (F : List PV → Rs PV) : PV → Rs PV
  | .ins D fs => if D = C then F [.ins D fs] else .bad
  | _ => .bad
def tNegI (C : Addr) (sp : Sp) (W : WX) (ta : TE) : TE := fun σ H Q => ta σ H fun x H1 => ∃ a dx gs, x = V.ref a ∧ H1 a = some (.ins C dx gs) ∧ sp [x] H1 Q (WE W σ)
section
variable {X : Cx} {W : WX} {V : List Nat} {e : Expr} {pos : Pos} {ta : TE} {j k : Nat} {C f : Addr} {fd : FuncData} {sp : Sp} {F : List PV → Rs PV} {fe : Env → Rs PV}
theorem pe_negI (FN : FnOk X.prog X.w X.K X.mg X.base (L2.CX X.prog X.w) k f fd ["self"] sp) (hs : PySem.W.findIn X.K (.ref C) "__neg__" = some (some (.ref f))) (hf : PySem.W.isFn X.K (.ref f) = true) (hb : Binds X.K fd ["self"] []) (hr : Room k X.A) (tk : Takes X W) (he : PE X e ta) : PE X (.UnaryOp .USub e pos) (tNegI C sp W ta) := by
  refine ⟨fun pins s σ H Q I h => UnaryOp_ (thn (he.run pins s σ H _ I h) fun u s1 ⟨x, H1, I1, rx, a, dx, gs, ex, ea, q⟩ => ?_)⟩
  subst ex
  have rx2 : u = Value.ref a := rx
  subst rx2
  obtain ⟨mA, O, _⟩ := ins_get I1.hok ea
  obtain ⟨od, J, _⟩ := O.look
  obtain ⟨m, Fr⟩ := I1.fr
  exact PySem.W.ksp_neg Fr I1.ok.mod.kin J hs hf (run_fnS FN hr hb (passAt tk σ) I1 (.cons rx .nil) q)
theorem o_negI (N : Neg X.prog X.w X.K X.mg X.base k C F) (hr : Room j X.A) (tk : Takes X W) (he : EX X W V e fe) (hk : k ≤ j := by decide) : OX X W V (.UnaryOp .USub e pos) (b1 fe (pNegI C F)) := fun Γ σ H0 H Q sh sm q => by
  obtain ⟨f, fd, FN, hs, hf, hb⟩ := N.ex
  refine PE.to (pe_negI FN hs hf hb (hr.mono hk) tk pe_of) (he Γ σ H0 H _ sh sm (q.step.mono fun x H1 H2 g q1 v r => ?_))
  cases x with
  | ins D fs =>
    obtain ⟨e, q2⟩ := post_if q1
    subst e
    obtain ⟨a, dx, gs, rfl, h, rs⟩ := r
    exact ⟨a, dx, gs, rfl, g.c _ _ h, rfl, [.ins D fs], H1, ⟨⟨a, dx, gs, rfl, h, rs⟩, trivial⟩, g.c, (q2.mono fun a H3 H4 g2 ga => ⟨ga.1, fun b n n0 r => ga.2 b (none_back g.b n) n0 r⟩).wf⟩
  | _ => exact False.elim q1
end
end Lh.P
set_option Elab.async false
set_option linter.all false
set_option maxRecDepth 100000
set_option maxHeartbeats 4000000
/-! t[::-1] of a tuple. -/
namespace Lh.P
open PySem PySem.Spec PyProof.Rows L2 _root_.SX
section
variable {prog : Program} {w : World} {A : Around} {E : Value → Shared → Prop} {s : Shared}
/-- where a walk backwards begins, and how many stand on it -/
theorem back_span {sl : Addr} {vl vu vk : Value} {n : Nat} {Q : Int × Int × Nat → Shared → Prop} (hs : s.heap.IsSliceOf sl vl vu vk) (pl : IsPart vl none) (pu : IsPart vu none) (pk : IsPart vk (some (-1))) (h : Q ((n : Int) - 1, -1, n) s) :
    wpAny (model prog w) A (Builtin.Slice.sliceApplied (.ref sl) (pure (n : Int))) Q E s := by
  obtain ⟨o, ho, _, hd⟩ := hs
  have e : Builtin.Slice.slicePlaces ((n : Int) - 1) (-1) (-1) = n := by
    unfold Builtin.Slice.slicePlaces
    rw [if_neg (by decide)]
    by_cases z : (n : Int) - 1 > -1
    · rw [if_pos z, show (-(-1 : Int)) = 1 from rfl, Int.ediv_one]
      omega
    · rw [if_neg z]
      show 0 = n
      omega
  unfold Builtin.Slice.sliceApplied
  refine wpAny_bind (m := Builtin.Slice.sliceFields _) (wpAny_bind (wpAny_field ho hd (x := vl) rfl (wpAny_bind (wpAny_field ho hd (x := vu) rfl (wpAny_bind (wpAny_field ho hd (x := vk) rfl (wpAny_pure (wpAny_bind (HT.slicePart_ pk ?_)))))))))
  show wpAny _ _ (if ((-1 : Int) == 0) = true then _ else _) _ _ s
  rw [if_neg (by decide)]
  refine wpAny_bind (HT.slicePart_ pl (wpAny_bind (HT.slicePart_ pu (wpAny_bind (wpAny_pure (wpAny_pure ?_))))))
  show Q ((n : Int) - 1, -1, Builtin.Slice.slicePlaces ((n : Int) - 1) (-1) (-1)) s
  rw [e]
  exact h
theorem fm_congr {α β : Type} {f g : α → Option β} : ∀ {l : List α}, (∀ x ∈ l, f x = g x) → l.filterMap f = l.filterMap g
  | [], _ => rfl
  | x :: l, h => by
    rw [List.filterMap_cons, List.filterMap_cons, h x List.mem_cons_self, fm_congr fun y hy => h y (List.mem_cons_of_mem _ hy)]
theorem back_pick (xs : Array Value) : ((List.range xs.size).filterMap fun (k : Nat) => xs[((xs.size : Int) - 1 + (k : Int) * -1).toNat]?).toArray = xs.toList.reverse.toArray := by
  have e : ((List.range xs.size).filterMap fun (k : Nat) => xs[((xs.size : Int) - 1 + (k : Int) * -1).toNat]?) = ((List.range xs.size).map fun k => xs.size - 1 - k).filterMap (xs[·]?) := by
    rw [List.filterMap_map]
    refine fm_congr fun k hk => ?_
    have hk := List.mem_range.mp hk
    have : ((xs.size : Int) - 1 + (k : Int) * -1).toNat = xs.size - 1 - k := by omega
    show xs[((xs.size : Int) - 1 + (k : Int) * -1).toNat]? = xs[xs.size - 1 - k]?
    rw [this]
  rw [e, PySem.W.krv_range, List.filterMap_reverse, PySem.W.krv_all]
/-- t[sl], sl a slice backwards over the whole -/
theorem get_back {t sl : Addr} {its : Array Value} {vl vu vk : Value} {Q : Value → Shared → Prop} (ht : IsTup s.heap t its) (hs : s.heap.IsSliceOf sl vl vu vk) (pl : IsPart vl none) (pu : IsPart vu none) (pk : IsPart vk (some (-1))) (hz : its.size ≤ sizeLine)
    (h : Q (.ref s.heap.objs.size) { s with heap := s.heap.push { cls := .type "tuple", data := .seq its.toList.reverse.toArray } }) : wpAny (model prog w) A (getItem (.ref t) (.ref sl)) Q E s := by
  have hT : s.TypeIs (.ref sl) "slice" := let ⟨o, ho, hc, _⟩ := hs; ⟨o, ho, hc⟩
  have ok : sizeOk (.seq its.toList.reverse.toArray) := by
    show its.toList.reverse.toArray.size ≤ sizeLine
    rw [List.size_toArray, List.length_reverse, Array.length_toList]
    exact hz
  unfold getItem
  refine wpAny_holding (wpAny_bind (wpAny_sequenceKey ht.typeIs (by decide) (wpAny_bind (wpAny_callSpecial?_slot (name := Str.ofString "__getitem__") ht.typeIs PyProof.Rows.slot_tuple_getitem (wpAny_call_entry PyProof.Rows.slot_tuple_getitem ht.typeIs entry_tuple_getitem ?_ (args_tuple_getitem _ _))))))
  show wpAny _ _ (Builtin.Tuple.tupleItemsOf (.ref t) >>= _) _ _ s
  refine wpAny_bind (tupleItemsOf_ ht (wpAny_bind (wpAny_typeOf hT ?_)))
  rw [if_pos (by decide)]
  refine wpAny_bind (back_span hs pl pu pk ?_)
  show wpAny _ _ (if (((its.size : Int) - 1) == 0 && (-1 : Int) == 1 && its.size == its.size) = true then _ else _) _ _ s
  rw [if_neg (by rw [show ((-1 : Int) == 1) = false from rfl, Bool.and_false, Bool.false_and]; decide), back_pick]
  refine wpAny_bind (m := Builtin.Tuple.tupleExact _) (wpAny_newObj_type (wpAny_pure ⟨_, rfl, wpAny_pure h⟩) ok)
end
def tRevT (K : PySem.W.Frag) (te : TE) : TE := fun σ H Q => te σ H fun x H1 => ∃ a xs, x = .ref a ∧ SqT K H1 a xs ∧ ∀ p, H1 p = none → Q (.ref p) (upd H1 p (.tup xs.reverse))
section
variable {X : Cx}
theorem pe_revT {e : Expr} {te : TE} {k : Nat} {p1 p2 p3 pos : Pos} (he : PE X e te) : PE X (.Subscript e (.Slice none none (some (.UnaryOp .USub (.Constant (.int 1) k p1) p2)) p3) pos) (tRevT X.K te) := by
  refine ⟨fun pins s σ H Q I h => Subscript_ (thn (he.run pins s σ H _ I h) fun v s1 hv => ?_)⟩
  obtain ⟨x, H1, I1, r1, a, xs, rfl, hx, q⟩ := hv
  have rv : v = Value.ref a := r1
  subst rv
  have hm : PO X (some (.UnaryOp .USub (.Constant (.int 1) k p1) p2)) (tPart (tUn (rU fun i => .int (-i)) (tC (.int 1)))) := po_some (pe_un un_neg pe_int)
  refine wpAny_Slice (thn (po_none.run pins s1 σ H1 (fun o H2 => o = none ∧ H2 = H1) I1 ⟨rfl, rfl⟩) fun vl s2 hl => ?_)
  obtain ⟨l, H2, I2, pl, rfl, rfl⟩ := hl
  refine thn (po_none.run pins s2 σ H2 (fun o H3 => o = none ∧ H3 = H2) I2 ⟨rfl, rfl⟩) fun vu s3 hu => ?_
  obtain ⟨u, H3, I3, pu, rfl, rfl⟩ := hu
  refine thn (hm.run pins s3 σ H3 (fun o H4 => o = some (-1) ∧ H4 = H3) I3 ⟨1, rfl, -1, rfl, rfl, rfl⟩) fun vs s4 hs => ?_
  obtain ⟨o, H4, I4, ps, rfl, rfl⟩ := hs
  have I5 : Inv X pins σ H4 { s4 with heap := s4.heap.push { cls := .type "slice", data := .fields #[vl, vu, vs] } } := I4.kept (t' := s4.toks) fun b ob q => Heap.get?_push_of_some _ q
  obtain ⟨its, rv, ht, hz⟩ := I5.tuple hx
  have hlen := rv.length
  show wpAny (model X.prog X.w) X.A (subscriptTail e (.Slice none none (some (.UnaryOp .USub (.Constant (.int 1) k p1) p2)) p3) (.ref a) (.ref s4.heap.objs.size)) (EP X pins σ Q) X.xe _
  refine tail_any (ops := [.ref a, .ref s4.heap.objs.size]) ht.typeIs PyProof.Rows.slot_tuple_getitem.lookup ?_ (by with_unfolding_all rfl)
  refine get_back ht (Heap.IsSliceOf.new s4.heap vl vu vs) pl pu ps (by rw [List.size_toArray]; omega) ?_
  exact ⟨.ref _, _, I5.laid (t' := s4.toks) (o := .tup xs.reverse) (fun b ob q => Heap.get?_push_of_some _ q) (Nat.le_refl _) ⟨by rw [List.length_reverse]; exact hz, _, rv.reverse, ⟨_, Heap.get?_push_size _ rfl, rfl, 0, rfl⟩⟩, rfl, q _ (I5.hok.fresh (Nat.le_refl _))⟩
end
/-- t[::-1] of a tuple, as a value -/
def pRevT : PV → Rs PV
  | .tup xs => .ok (.tup xs.reverse)
  | _ => .bad
section
variable {X : Cx} {W : WX} {V : List Nat} {e : Expr} {pos : Pos}
theorem x_revT {f : Env → Rs PV} {k : Nat} {q1 q2 q3 : Pos} (he : EX X W V e f) : EX X W V (.Subscript e (.Slice none none (some (.UnaryOp .USub (.Constant (.int 1) k q1) q2)) q3) pos) (b1 f pRevT) := fun Γ σ H0 H Q sh sm q => by
  refine PE.to (pe_revT pe_of) (he Γ σ H0 H _ sh sm (q.step.mono fun x H1 H2 g q1 v r => ?_))
  cases x with
  | tup xs =>
    have q1 : Post X.K W σ (gE X.K Q) H1 H2 (.ok (.tup xs.reverse)) := q1
    obtain ⟨a, vs, rfl, ha, rs⟩ := r
    refine ⟨a, vs, rfl, SqT.of (g.c _ _ ha), fun p hp => ?_⟩
    have gn := Gr.new (o := .tup vs.reverse) g.c hp
    exact q1 _ _ gn _ ⟨p, _, rfl, upd_same, Reps.mono gn.a _ _ rs.rev⟩
  | _ => exact False.elim q1
end
end Lh.P
set_option Elab.async false
set_option linter.all false
set_option maxRecDepth 100000
set_option maxHeartbeats 4000000
namespace Lh.P
open PySem PySem.Spec PyProof.Rows L2 _root_.SX
noncomputable section
def N_common_divisor : List Str := ["numbers", "divisor", "number"]
def B_common_divisor (A : Ad) : Env → Out :=
 (thenB (dSet 1 (eC (.int 0)))
 (thenB (dFor (iAny (eV 0)) (gN 2)
  (dSet 1 (bC (aCons (eV 1) (aCons (eV 2) aNil)) pGcd)))
 (dRet (eV 1))))
def F_common_divisor (A : Ad) : List PV → Rs PV := fnF N_common_divisor 1 (B_common_divisor A)
def N_least_amounts : List Str := ["coins", "least", "amount_to", "coin_to", "queue", "amount", "at", "coin", "total"]
def B_least_amounts (A : Ad) : Env → Out :=
 (thenB (dSet 1 (bC (aCons (eV 0) aNil) (pBest min)))
 (thenB (dSet 2 (fun _ => .ok (.dic [(.inl 0, .int 0)])))
 (thenB (dSet 3 (fun _ => .ok (.dic [])))
 (thenB (dSet 4 (eLst (aCons (eC (.int 0)) aNil)))
 (thenB (whileL (bTru (eV 4))
  (thenB (dPop 4 (gN 5))
 (thenB (ifB (bT (b2 (eV 5) (b2 (eV 2) (b2 (eV 5) (eV 1) pMod) pDget) iGt))
 .cont
 .next)
 (dFor (iEn (aCons (eV 0) aNil)) (gTupP 2 (gConsP (gN 6) (gConsP (gN 7) gNilP)))
  (thenB (dSet 8 (b2 (eV 5) (eV 7) pAdd))
 (ifB (bOr (bT (b2 (b2 (eV 8) (eV 1) pMod) (eV 2) pDnotin)) (bT (b2 (eV 8) (b2 (eV 2) (b2 (eV 8) (eV 1) pMod) pDget) iLt)))
 (thenB (dDput [1, 8] [4, 3, 2] 2 (eV 8) (b2 (eV 8) (eV 1) pMod))
 (thenB (dDput [1, 6, 8] [4, 3, 2] 3 (eV 6) (b2 (eV 8) (eV 1) pMod))
 (dPush 4 (eV 8))))
 .next))))) fuel)
 (dRet (eTup (aCons (eV 2) (aCons (eV 3) aNil)))))))))
def F_least_amounts (A : Ad) : List PV → Rs PV := fnF N_least_amounts 1 (B_least_amounts A)
def N_sure_amount : List Str := ["coins", "amount_to", "_"]
def B_sure_amount (A : Ad) : Env → Out :=
 (thenB (dUnp (gTupP 2 (gConsP (gN 1) (gConsP (gN 2) gNilP))) (bC (aCons (eV 0) aNil) (F_least_amounts A)))
 (dRet (b2 (b2 (b1 (eV 1) pMaxV) (bC (aCons (eV 0) aNil) (pBest min)) iSub) (bC (aCons (eV 0) aNil) (F_common_divisor A)) pAdd)))
def F_sure_amount (A : Ad) : List PV → Rs PV := fnF N_sure_amount 1 (B_sure_amount A)
def N_pay : List Str := ["coins", "amount", "amount_to", "coin_to", "least", "rest", "counts", "at"]
def B_pay (A : Ad) : Env → Out :=
 (thenB (dUnp (gTupP 2 (gConsP (gN 2) (gConsP (gN 3) gNilP))) (bC (aCons (eV 0) aNil) (F_least_amounts A)))
 (thenB (dSet 4 (bC (aCons (eV 0) aNil) (pBest min)))
 (thenB (dSet 5 (b2 (eV 1) (eV 4) pMod))
 (thenB (ifB (bOr (bT (b2 (eV 5) (eV 2) pDnotin)) (bT (b2 (b2 (eV 2) (eV 5) pDget) (eV 1) iGt)))
 (dRet (b1 (eC .non) pSc))
 .next)
 (thenB (dSet 6 (b2 (eLst (aCons (eC (.int 0)) aNil)) (bC (aCons (eV 0) aNil) pLen) pRep))
 (thenB (dSub [0, 1, 2, 4, 5] [6] 6 (b2 (b2 (eV 1) (b2 (eV 2) (eV 5) pDget) iSub) (eV 4) pFdiv) (bIdx (eV 0) (eV 4) pIndex))
 (thenB (whileL (bT (b2 (eV 5) (eV 3) pDin))
  (thenB (dSet 7 (b2 (eV 3) (eV 5) pDget))
 (thenB (dAug [7] [6] 6 (fun a b => a + b) (eV 7) (eC (.int 1)))
 (dSet 5 (b2 (b2 (eV 5) (b2 (eV 0) (eV 7) pIx) iSub) (eV 4) pMod)))) fuel)
 (dRetV 6))))))))
def F_pay (A : Ad) : List PV → Rs PV := fnO N_pay 2 (B_pay A)
def N__law_cell : List Str := ["_law_script", "_law_k"]
def B__law_cell (A : Ad) : Env → Out :=
 (thenB (ifB (bT (b2 (eV 1) (bC (aCons (eV 0) aNil) pLen) iLt))
 (dRet (b2 (eV 0) (eV 1) pIx))
 .next)
 (dRet (eC (.int 0))))
def F__law_cell (A : Ad) : List PV → Rs PV := fnF N__law_cell 2 (B__law_cell A)
def N__law_row : List Str := ["_law_cell_here", "_law_sizes", "_law_row_here", "_law_rest", "_law_k", "_law_mixed"]
def B__law_row (A : Ad) : Env → Out :=
 (thenB (dSet 2 (eLst aNil))
 (thenB (dSet 3 (b2 (eV 0) (b2 (eC (.int 10)) (eC (.int 18)) pPow) iSub))
 (thenB (dFor (iR1 (aCons (bC (aCons (eV 1) aNil) pLen) aNil)) (gN 4)
  (ifB (bT (b2 (eV 0) (b2 (eC (.int 10)) (eC (.int 18)) pPow) iGe))
 (thenB (dMt [1, 3, 4] [2] 2 (aCons (b2 (bC (aCons (eV 3) aNil) pInt) (b2 (eV 1) (eV 4) pIx) pMod) aNil) mAppend)
 (dSet 3 (b2 (eV 3) (b2 (eV 1) (eV 4) pIx) pFdiv)))
 (thenB (dSet 5 (b2 (bC (aCons (b2 (b2 (eV 0) (b2 (eC (.int 7919)) (eV 4) pMul) pAdd) (eC (.int 13)) pAdd) aNil) pInt) (eC (.int 2147483647)) pMod))
 (thenB (dSet 5 (b2 (bC (aCons (b2 (eV 5) (b2 (eV 5) (eC (.int 48271)) pAdd) pMul) aNil) pInt) (eC (.int 2147483629)) pMod))
 (thenB (dSet 5 (b2 (bC (aCons (b2 (b2 (eV 5) (b2 (eV 5) (eC (.int 69621)) pAdd) pMul) (b2 (eC (.int 31)) (eV 4) pMul) pAdd) aNil) pInt) (eC (.int 2147483647)) pMod))
 (dMt [1, 4, 5] [2] 2 (aCons (b2 (bC (aCons (b2 (eV 5) (eC (.int 9)) pFdiv) aNil) pInt) (b2 (eV 1) (eV 4) pIx) pMod) aNil) mAppend))))))
 (dRet (eV 2)))))
def F__law_row (A : Ad) : List PV → Rs PV := fnF N__law_row 2 (B__law_row A)
def N__law_is_integer : List Str := ["_law_actual"]
def B__law_is_integer (A : Ad) : Env → Out :=
 (dRet (vAnd (b1 (eV 0) (pIsT "int")) (vNot (b1 (eV 0) (pIsT "bool")))))
def F__law_is_integer (A : Ad) : List PV → Rs PV := fnF N__law_is_integer 1 (B__law_is_integer A)
def N__law_integers : List Str := ["_law_actual", "_law_number"]
def B__law_integers (A : Ad) : Env → Out :=
 (thenB (ifB (bNot (bT (b1 (eV 0) (pIsT "list"))))
 (dRet (eC (.bl false)))
 .next)
 (dRet (bC (aCons (bLc [1] (iAny (eV 0)) (gN 1) yesB (bC (aCons (eV 1) aNil) (F__law_is_integer A))) aNil) pAll)))
def F__law_integers (A : Ad) : List PV → Rs PV := fnF N__law_integers 1 (B__law_integers A)
def N__law_coins : List Str := ["_law_one", "_law_two", "_law_row_here", "_law_choice", "_law_coins_here", "_law_k", "_law_factor", "_law_coin"]
def B__law_coins (A : Ad) : Env → Out :=
 (thenB (dSet 2 (bC (aCons (eV 0) (aCons (eLst (aCons (eC (.int 6)) (aCons (eC (.int 20)) (aCons (eC (.int 20)) (aCons (eC (.int 20)) (aCons (eC (.int 20)) (aCons (eC (.int 20)) (aCons (eC (.int 20)) aNil)))))))) aNil)) (F__law_row A)))
 (thenB (dSet 3 (bC (aCons (eV 1) (aCons (eLst (aCons (eC (.int 6)) (aCons (eC (.int 6)) (aCons (eC (.int 60)) (aCons (eC (.int 6)) (aCons (eC (.int 6)) (aCons (eC (.int 6)) (aCons (eC (.int 6)) aNil)))))))) aNil)) (F__law_row A)))
 (thenB (dSet 4 (bLc [5] (iR1 (aCons (b2 (eC (.int 1)) (b2 (eV 2) (eC (.int 0)) pIx) pAdd) aNil)) (gN 5) yesB (b2 (eC (.int 1)) (b2 (eV 2) (b2 (eC (.int 1)) (eV 5) pAdd) pIx) pAdd)))
 (thenB (ifB (bT (b2 (b2 (eV 3) (eC (.int 0)) pIx) (eC (.int 0)) pEq))
 (dSub [3, 4] [4] 4 (b2 (eC (.int 1)) (b2 (eV 3) (eC (.int 2)) pIx) pAdd) (b2 (bC (aCons (b2 (eV 3) (eC (.int 1)) pIx) aNil) pInt) (bC (aCons (eV 4) aNil) pLen) pMod))
 .next)
 (thenB (ifB (bT (b2 (b2 (eV 3) (eC (.int 0)) pIx) (eC (.int 1)) pEq))
 (dSub [3, 4] [4] 4 (b2 (eV 4) (b2 (bC (aCons (b2 (eV 3) (eC (.int 4)) pIx) aNil) pInt) (bC (aCons (eV 4) aNil) pLen) pMod) pIx) (b2 (bC (aCons (b2 (eV 3) (eC (.int 3)) pIx) aNil) pInt) (bC (aCons (eV 4) aNil) pLen) pMod))
 .next)
 (thenB (dSet 6 (b2 (eLst (aCons (eC (.int 1)) (aCons (eC (.int 1)) (aCons (eC (.int 1)) (aCons (eC (.int 2)) (aCons (eC (.int 3)) (aCons (eC (.int 4)) aNil))))))) (b2 (eV 3) (eC (.int 5)) pIx) pIx))
 (dRet (eTup (aCons (bLc [7] (iAny (eV 4)) (gN 7) yesB (b2 (eV 7) (eV 6) pMul)) (aCons (b2 (b2 (eV 3) (eC (.int 6)) pIx) (eC (.int 2)) iLt) aNil))))))))))
def F__law_coins (A : Ad) : List PV → Rs PV := fnF N__law_coins 2 (B__law_coins A)
def N__law_measure : List Str := ["_law_coins_here", "_law_best", "_law_size", "_law_coin"]
def B__law_measure (A : Ad) : Env → Out :=
 (thenB (dSet 1 (eC (.int 1)))
 (thenB (dFor (iR2 (aCons (eC (.int 2)) (aCons (eC (.int 241)) aNil))) (gN 2)
  (ifB (bT (bC (aCons (bLc [3] (iAny (eV 0)) (gN 3) yesB (b2 (b2 (bC (aCons (eV 3) aNil) pInt) (eV 2) pMod) (eC (.int 0)) pEq)) aNil) pAll))
 (dSet 1 (eV 2))
 .next))
 (dRet (eV 1))))
def F__law_measure (A : Ad) : List PV → Rs PV := fnF N__law_measure 1 (B__law_measure A)
def N__law_payable : List Str := ["_law_units", "_law_table", "_law_amount", "_law_unit"]
def B__law_payable (A : Ad) : Env → Out :=
 (thenB (dSet 1 (eLst (aCons (eC (.bl true)) aNil)))
 (thenB (dFor (iR2 (aCons (eC (.int 1)) (aCons (b2 (b2 (bC (aCons (eV 0) aNil) (pBest min)) (bC (aCons (eV 0) aNil) (pBest max)) pMul) (eC (.int 1)) pAdd) aNil))) (gN 2)
  (dMt [0, 1, 2, 3] [1] 1 (aCons (bC (aCons (bLc [3] (iAny (eV 0)) (gN 3) (bT (b2 (eV 3) (eV 2) iLe)) (b2 (eV 1) (b2 (eV 2) (eV 3) iSub) pIx)) aNil) pAny) aNil) mAppend))
 (dRet (eV 1))))
def F__law_payable (A : Ad) : List PV → Rs PV := fnF N__law_payable 1 (B__law_payable A)
def N__law_handed : List Str := ["_law_coins_here", "_law_loose"]
def B__law_handed (A : Ad) : Env → Out :=
 (thenB (ifB (bT (eV 1))
 (dRet (bC (aCons (eV 0) aNil) pTun))
 .next)
 (dRet (bC (aCons (eV 0) aNil) pList)))
def F__law_handed (A : Ad) : List PV → Rs PV := fnF N__law_handed 2 (B__law_handed A)
def N__law_pays : List Str := ["_law_coins_here", "_law_loose", "_law_amount", "_law_payable_here", "_law_handed_here", "_law_turn", "_law_told", "_law_k"]
def B__law_pays (A : Ad) : Env → Out :=
 (thenB (dSet 4 (bC (aCons (eV 0) (aCons (eV 1) aNil)) (F__law_handed A)))
 (thenB (dFor (iR1 (aCons (eC (.int 2)) aNil)) (gN 5)
  (thenB (dSet 6 (bC (aCons (eV 4) (aCons (eV 2) aNil)) (F_pay A)))
 (thenB (ifB (bT (eV 3))
 (thenB (ifB (bOr (bNot (bT (bC (aCons (eV 6) aNil) (F__law_integers A)))) (bT (b2 (bC (aCons (eV 6) aNil) pLen) (bC (aCons (eV 0) aNil) pLen) pNe)))
 (dRet (eC (.bl false)))
 .next)
 (thenB (ifB (bOr (bT (b2 (bC (aCons (eV 6) aNil) (pBest min)) (eC (.int 0)) iLt)) (bT (b2 (bC (aCons (bLc [7] (iR1 (aCons (bC (aCons (eV 0) aNil) pLen) aNil)) (gN 7) yesB (b2 (b2 (eV 6) (eV 7) pIx) (b2 (eV 0) (eV 7) pIx) pMul)) aNil) pSum) (eV 2) pNe)))
 (dRet (eC (.bl false)))
 .next)
 (dMt [] [6] 6 (aCons (eC (.int 1)) aNil) mAppend)))
 .next)
 (ifB (bAnd (bNot (bT (eV 3))) (bT (b2 (eV 6) (eC .non) pNotN)))
 (dRet (eC (.bl false)))
 .next))))
 (dRet (b2 (bC (aCons (eV 4) aNil) pList) (eV 0) pEq))))
def F__law_pays (A : Ad) : List PV → Rs PV := fnF N__law_pays 4 (B__law_pays A)
def N_law : List Str := ["_law_script", "_law_made", "_law_coins_here", "_law_measure_here", "_law_table", "_law_coin", "_law_sure", "_law_unit", "_law_handed_here", "_law_turn", "_law_told", "_law_row_here", "_law_amounts", "_law_amount", "_law_payable_here"]
def B_law (A : Ad) : Env → Out :=
 (thenB (dSet 1 (bC (aCons (bC (aCons (eV 0) (aCons (eC (.int 0)) aNil)) (F__law_cell A)) (aCons (bC (aCons (eV 0) (aCons (eC (.int 1)) aNil)) (F__law_cell A)) aNil)) (F__law_coins A)))
 (thenB (dSet 2 (b2 (eV 1) (eC (.int 0)) pIx))
 (thenB (dSet 3 (bC (aCons (eV 2) aNil) (F__law_measure A)))
 (thenB (dSet 4 (bC (aCons (bLc [5] (iAny (eV 2)) (gN 5) yesB (b2 (eV 5) (eV 3) pFdiv)) aNil) (F__law_payable A)))
 (thenB (dSet 6 (eC (.int 0)))
 (thenB (dFor (iR1 (aCons (bC (aCons (eV 4) aNil) pLen) aNil)) (gN 7)
  (ifB (bNot (bT (b2 (eV 4) (eV 7) pIx)))
 (dSet 6 (b2 (b2 (eV 7) (eC (.int 1)) pAdd) (eV 3) pMul))
 .next))
 (thenB (dSet 8 (bC (aCons (eV 2) (aCons (b2 (eV 1) (eC (.int 1)) pIx) aNil)) (F__law_handed A)))
 (thenB (dFor (iR1 (aCons (eC (.int 2)) aNil)) (gN 9)
  (thenB (dSet 10 (bC (aCons (eV 8) aNil) (F_sure_amount A)))
 (ifB (bOr (bNot (bT (bC (aCons (eV 10) aNil) (F__law_is_integer A)))) (bT (b2 (eV 10) (eV 6) pNe)))
 (dRet (eC (.bl false)))
 .next)))
 (thenB (dSet 11 (bC (aCons (bC (aCons (eV 0) (aCons (eC (.int 2)) aNil)) (F__law_cell A)) (aCons (eLst (aCons (eC (.int 401)) (aCons (eC (.int 60)) (aCons (eC (.int 8)) (aCons (eC (.int 100)) (aCons (eC (.int 5040)) (aCons (eC (.int 5040)) aNil))))))) aNil)) (F__law_row A)))
 (thenB (dSet 12 (eLst (aCons (eC (.int 0)) (aCons (b2 (eV 11) (eC (.int 0)) pIx) (aCons (eV 6) (aCons (b2 (eV 6) (b2 (eV 11) (eC (.int 1)) pIx) pAdd) (aCons (bC (aCons (eC (.int 0)) (aCons (b2 (eV 6) (eV 3) iSub) aNil)) pMax2) (aCons (b2 (eV 6) (eV 3) pAdd) (aCons (b2 (eV 6) (eC (.int 1)) pAdd) aNil)))))))))
 (thenB (dSetOR [6, 11, 12] [12] 12 (b2 (eV 12) (eLst (aCons (b2 (bC (aCons (b2 (eV 11) (eC (.int 4)) pIx) aNil) pInt) (b2 (eV 6) (eC (.int 1)) pAdd) pMod) (aCons (b2 (bC (aCons (b2 (eV 11) (eC (.int 5)) pIx) aNil) pInt) (b2 (eV 6) (eC (.int 1)) pAdd) pMod) aNil))) pCat))
 (thenB (ifB (bT (b2 (b2 (eV 11) (eC (.int 2)) pIx) (eC (.int 0)) pEq))
 (dMt [11] [12] 12 (aCons (b2 (eC (.int 3000)) (b2 (eV 11) (eC (.int 3)) pIx) pAdd) aNil) mAppend)
 .next)
 (thenB (dFor (iAny (eV 12)) (gN 13)
  (thenB (dSet 14 (b2 (b2 (bC (aCons (eV 13) aNil) pInt) (eV 3) pMod) (eC (.int 0)) pEq))
 (thenB (ifB (bAnd (bT (eV 14)) (bT (b2 (b2 (eV 13) (eV 3) pFdiv) (bC (aCons (eV 4) aNil) pLen) iLt)))
 (dSet 14 (b2 (eV 4) (b2 (eV 13) (eV 3) pFdiv) pIx))
 .next)
 (ifB (bNot (bT (bC (aCons (eV 2) (aCons (b2 (eV 1) (eC (.int 1)) pIx) (aCons (eV 13) (aCons (eV 14) aNil)))) (F__law_pays A))))
 (dRet (eC (.bl false)))
 .next))))
 (dRet (b2 (bC (aCons (eV 8) aNil) pList) (eV 2) pEq)))))))))))))))
def F_law (A : Ad) : List PV → Rs PV := fnF N_law 1 (B_law A)
end
end Lh.P
set_option Elab.async false
set_option linter.all false
set_option maxRecDepth 100000
set_option maxHeartbeats 4000000
namespace Lh.P
open PySem PySem.Spec PyProof.Rows L2 _root_.SX
section
variable {P : Program} {w : World} {K : PySem.W.Frag} {mg : Str → Option Value} {base : Heap} {A : Ad}
theorem sc_common_divisor : FnScope N_common_divisor ["numbers"] (defScope (top 3)) := ⟨rfl, rfl, rfl, by decide +kernel, rfl, by decide +kernel, by decide +kernel⟩
theorem ok_common_divisor (B : Bl mg) (h_gcd : mg "gcd" = some (.builtin "math.gcd")) (D : Dfn K mg "common_divisor" (top 3)) : Cal P w K mg base (L2.CX P w) 1 "common_divisor" ["numbers"] (spF K 1 (F_common_divisor A)) := by
  have S := sc_common_divisor
  exact fn_ok (k := 0) D sc_common_divisor (fun _ _ _ _ _ _ us hl => match us, hl with | [_], _ => rfl) fun f cdv Ar outer s H E hr =>
 (bx_cons (s_set (i := 1) (V := []) (O' := []) (fun _ h => ps_set (i := 1) S.nd rfl (Or.inl rfl) h) x_int (by decide) (by decide) ⟨by decide, by decide⟩)
 (bx_cons (s_for (V := [0]) (T := [2]) (O1 := []) (passes_of rfl) rfl (ix_any (x_var (pv 0))) (pg_name (i := 2) S.nd rfl (Or.inl rfl)) gt_name
  (bx_one (s_set (i := 1) (V := [1, 2]) (O' := []) (fun _ h => ps_set (i := 1) S.nd rfl (Or.inl rfl) h) (x_callG c_gcd h_gcd (a_cons (x_var (pv 1)) (a_cons (x_var (pv 2)) a_nil))) (by decide) (by decide) ⟨by decide, by decide⟩)) (by decide) (by decide) ⟨by decide, by decide⟩)
 (bx_one (s_ret (V := [1]) rfl (x_var (pv 1)) (by decide) ⟨by decide, by decide⟩))))
theorem sc_least_amounts : FnScope N_least_amounts ["coins"] (defScope (top 4)) := ⟨rfl, rfl, rfl, by decide +kernel, rfl, by decide +kernel, by decide +kernel⟩
theorem ok_least_amounts (B : Bl mg) (h_heappop : mg "heappop" = some (.builtin "_heapq.heappop")) (h_heappush : mg "heappush" = some (.builtin "_heapq.heappush")) (D : Dfn K mg "least_amounts" (top 4)) : Cal P w K mg base (L2.CX P w) 1 "least_amounts" ["coins"] (spF K 1 (F_least_amounts A)) := by
  have S := sc_least_amounts
  exact fn_ok (k := 0) D sc_least_amounts (fun _ _ _ _ _ _ us hl => match us, hl with | [_], _ => rfl) fun f cdv Ar outer s H E hr =>
 (bx_cons (s_set (i := 1) (V := [0]) (O' := []) (fun _ h => ps_set (i := 1) S.nd rfl (Or.inl rfl) h) (x_callB (c_min1 rfl (hu1 hr)) B.min (by decide +kernel) (a_cons (x_var (pv 0)) a_nil)) (by decide) (by decide) ⟨by decide, by decide⟩)
 (bx_cons (s_setO (i := 2) (V := []) (O1 := []) (ps_set (i := 2) S.nd rfl (Or.inl rfl) pe_of) (o_dic1 (k := .inl 0) (y := .int 0) pe_int pe_int rfl fun _ => rfl) (by decide) (by decide) ⟨by decide, by decide⟩)
 (bx_cons (s_setO (i := 3) (V := []) (O1 := [2]) (ps_set (i := 3) S.nd rfl (Or.inl rfl) pe_of) o_dnew (by decide) (by decide) ⟨by decide, by decide⟩)
 (bx_cons (s_setO (i := 4) (V := []) (O1 := [3, 2]) (ps_set (i := 4) S.nd rfl (Or.inl rfl) pe_of) (o_lst (a_cons x_int a_nil)) (by decide) (by decide) ⟨by decide, by decide⟩)
 (bx_cons (s_while (V := [4]) (O1 := [4, 3, 2]) fuel (passes_of rfl) (t_tru (x_var (pv 4)))
  (bx_cons (s_pop (i := 4) (T := [5]) h_heappop (huI hr) (pv 4) gt_name (fun _ h => ps_asg h (pg_name (i := 5) S.nd rfl (Or.inl rfl))) (by decide) (by decide))
 (bx_cons (s_if (V := [1, 2, 5]) (O' := [4, 3, 2]) (t_cmp p_gt (x_var (pv 5)) (x_dget (hu1 hr) (x_var (pv 2)) (x_op p_mod (x_var (pv 5)) (x_var (pv 1)))) (nomark _))
 (bx_one (s_cont (by decide) (by decide)))
 bx_nil ⟨by decide, by decide⟩)
 (bx_one (s_for (V := [0]) (T := [6, 7]) (O1 := [4, 3, 2]) (passes_of rfl) rfl (ix_enum (a_cons (x_var (pv 0)) a_nil) B.enumerate) (Lh.P.pg_or (pg_lst rfl (pgs_cons (pg_name (i := 6) S.nd rfl (Or.inl rfl)) (pgs_cons (pg_name (i := 7) S.nd rfl (Or.inl rfl)) pgs_nil))) (pg_tup rfl (pgs_cons (pg_name (i := 6) S.nd rfl (Or.inl rfl)) (pgs_cons (pg_name (i := 7) S.nd rfl (Or.inl rfl)) pgs_nil)))) (gt_tup (gts_cons gt_name (gts_cons gt_name gts_nil)))
  (bx_cons (s_set (i := 8) (V := [5, 7]) (O' := [4, 3, 2]) (fun _ h => ps_set (i := 8) S.nd rfl (Or.inl rfl) h) (x_op p_add (x_var (pv 5)) (x_var (pv 7))) (by decide) (by decide) ⟨by decide, by decide⟩)
 (bx_one (s_if (V := [1, 2, 8]) (O' := [4, 3, 2]) (u_t (u_or (t_dnotin (hu1 hr) (x_op p_mod (x_var (pv 8)) (x_var (pv 1))) (x_var (pv 2))) (u_or1 (t_cmp p_lt (x_var (pv 8)) (x_dget (hu1 hr) (x_var (pv 2)) (x_op p_mod (x_var (pv 8)) (x_var (pv 1)))) (nomark _)))))
 (bx_cons (s_dput (i := 2) (V := [1, 8]) (fun _ _ h1 h2 => ps_dput (hu1 hr) (pv 2) h2 h1 rfl) (x_var (pv 8)) (x_op p_mod (x_var (pv 8)) (x_var (pv 1))) (by decide) ⟨by decide, by decide⟩)
 (bx_cons (s_dput (i := 3) (V := [1, 6, 8]) (fun _ _ h1 h2 => ps_dput (hu1 hr) (pv 3) h2 h1 rfl) (x_var (pv 6)) (x_op p_mod (x_var (pv 8)) (x_var (pv 1))) (by decide) ⟨by decide, by decide⟩)
 (bx_one (s_push (i := 4) (V := [8]) h_heappush (huI hr) (pv 4) (x_var (pv 8)) (by decide) (by decide) ⟨by decide, by decide⟩))))
 bx_nil ⟨by decide, by decide⟩))) (by decide) (by decide) ⟨by decide, by decide⟩)))) (by decide) (by decide) ⟨by decide, by decide⟩)
 (bx_one (s_ret (V := [2, 3]) rfl (x_tup (a_cons (x_var (pv 2)) (a_cons (x_var (pv 3)) a_nil))) (by decide) ⟨by decide, by decide⟩)))))))
theorem sc_sure_amount : FnScope N_sure_amount ["coins"] (defScope (top 5)) := ⟨rfl, rfl, rfl, by decide +kernel, rfl, by decide +kernel, by decide +kernel⟩
theorem ok_sure_amount (B : Bl mg) (D : Dfn K mg "sure_amount" (top 5)) (c_least_amounts : Cal P w K mg base (L2.CX P w) 1 "least_amounts" ["coins"] (spF K 1 (F_least_amounts A))) (c_common_divisor : Cal P w K mg base (L2.CX P w) 1 "common_divisor" ["numbers"] (spF K 1 (F_common_divisor A))) : Cal P w K mg base (L2.CX P w) 2 "sure_amount" ["coins"] (spF K 1 (F_sure_amount A)) := by
  have S := sc_sure_amount
  exact fn_ok (k := 1) D sc_sure_amount (fun _ _ _ _ _ _ us hl => match us, hl with | [_], _ => rfl) fun f cdv Ar outer s H E hr =>
 (bx_cons (s_unp (T := [1, 2]) (V := [0]) (O' := []) (fun _ h => ps_asg h (Lh.P.pg_or (pg_lst rfl (pgs_cons (pg_name (i := 1) S.nd rfl (Or.inl rfl)) (pgs_cons (pg_name (i := 2) S.nd rfl (Or.inl rfl)) pgs_nil))) (pg_tup rfl (pgs_cons (pg_name (i := 1) S.nd rfl (Or.inl rfl)) (pgs_cons (pg_name (i := 2) S.nd rfl (Or.inl rfl)) pgs_nil))))) (gt_tup (gts_cons gt_name (gts_cons gt_name gts_nil))) (x_call c_least_amounts fnF_n hr (takes_of rfl rfl rfl rfl) (a_cons (x_var (pv 0)) a_nil)) (by decide) (by decide) ⟨by decide, by decide⟩)
 (bx_one (s_ret (V := [0, 1]) rfl (x_op p_add (x_op p_sub (x_maxV rfl B.max (x_var (pv 1))) (x_callB (c_min1 rfl (hu1 hr)) B.min (by decide +kernel) (a_cons (x_var (pv 0)) a_nil))) (x_call c_common_divisor fnF_n hr (takes_of rfl rfl rfl rfl) (a_cons (x_var (pv 0)) a_nil))) (by decide) ⟨by decide, by decide⟩)))
theorem sc_pay : FnScope N_pay ["coins", "amount"] (defScope (top 6)) := ⟨rfl, rfl, rfl, by decide +kernel, rfl, by decide +kernel, by decide +kernel⟩
theorem ok_pay (B : Bl mg) (D : Dfn K mg "pay" (top 6)) (c_least_amounts : Cal P w K mg base (L2.CX P w) 1 "least_amounts" ["coins"] (spF K 1 (F_least_amounts A))) : Cal P w K mg base (L2.CX P w) 2 "pay" ["coins", "amount"] (spO K 2 (F_pay A)) := by
  have S := sc_pay
  exact fn_okO (k := 1) D sc_pay (fun _ _ _ _ _ _ us hl => match us, hl with | [_, _], _ => rfl) fun f cdv Ar outer s H E hr =>
 (bx_cons (s_unp (T := [2, 3]) (V := [0]) (O' := []) (fun _ h => ps_asg h (Lh.P.pg_or (pg_lst rfl (pgs_cons (pg_name (i := 2) S.nd rfl (Or.inl rfl)) (pgs_cons (pg_name (i := 3) S.nd rfl (Or.inl rfl)) pgs_nil))) (pg_tup rfl (pgs_cons (pg_name (i := 2) S.nd rfl (Or.inl rfl)) (pgs_cons (pg_name (i := 3) S.nd rfl (Or.inl rfl)) pgs_nil))))) (gt_tup (gts_cons gt_name (gts_cons gt_name gts_nil))) (x_call c_least_amounts fnF_n hr (takes_of rfl rfl rfl rfl) (a_cons (x_var (pv 0)) a_nil)) (by decide) (by decide) ⟨by decide, by decide⟩)
 (bx_cons (s_set (i := 4) (V := [0]) (O' := []) (fun _ h => ps_set (i := 4) S.nd rfl (Or.inl rfl) h) (x_callB (c_min1 rfl (hu1 hr)) B.min (by decide +kernel) (a_cons (x_var (pv 0)) a_nil)) (by decide) (by decide) ⟨by decide, by decide⟩)
 (bx_cons (s_set (i := 5) (V := [1, 4]) (O' := []) (fun _ h => ps_set (i := 5) S.nd rfl (Or.inl rfl) h) (x_op p_mod (x_var (pv 1)) (x_var (pv 4))) (by decide) (by decide) ⟨by decide, by decide⟩)
 (bx_cons (s_if (V := [1, 2, 5]) (O' := []) (u_t (u_or (t_dnotin (hu1 hr) (x_var (pv 5)) (x_var (pv 2))) (u_or1 (t_cmp p_gt (x_dget (hu1 hr) (x_var (pv 2)) (x_var (pv 5))) (x_var (pv 1)) (nomark _)))))
 (bx_one (s_retO (V := []) rfl (o_sc x_non) (by decide) ⟨by decide, by decide⟩))
 bx_nil ⟨by decide, by decide⟩)
 (bx_cons (s_setO (i := 6) (V := [0]) (O1 := []) (ps_set (i := 6) S.nd rfl (Or.inl rfl) pe_of) (o_op p_rep (OX.ex (o_lst (a_cons x_int a_nil))) (x_callB c_len B.len (by decide +kernel) (a_cons (x_var (pv 0)) a_nil))) (by decide) (by decide) ⟨by decide, by decide⟩)
 (bx_cons (s_sub (i := 6) (V := [0, 1, 2, 4, 5]) (fun _ _ h1 h2 => ps_asg h1 (pg_sub (pv 6) h2 set_list)) (x_op p_fdiv (x_op p_sub (x_var (pv 1)) (x_dget (hu1 hr) (x_var (pv 2)) (x_var (pv 5)))) (x_var (pv 4))) (x_index (x_var (pv 0)) (x_var (pv 4))) (by decide) ⟨by decide, by decide⟩)
 (bx_cons (s_while (V := [3, 5]) (O1 := [6]) fuel (passes_of rfl) (t_din (hu1 hr) (x_var (pv 5)) (x_var (pv 3)))
  (bx_cons (s_set (i := 7) (V := [3, 5]) (O' := [6]) (fun _ h => ps_set (i := 7) S.nd rfl (Or.inl rfl) h) (x_dget (hu1 hr) (x_var (pv 3)) (x_var (pv 5))) (by decide) (by decide) ⟨by decide, by decide⟩)
 (bx_cons (s_aug (i := 6) (V := [7]) (fun _ _ h1 h2 => ps_augS (pv 6) h2 get_listG h1 ip_add set_list) (x_var (pv 7)) x_int (by decide) (by decide) ⟨by decide, by decide⟩)
 (bx_one (s_set (i := 5) (V := [0, 4, 5, 7]) (O' := [6]) (fun _ h => ps_set (i := 5) S.nd rfl (Or.inl rfl) h) (x_op p_mod (x_op p_sub (x_var (pv 5)) (x_ix (x_var (pv 0)) (x_var (pv 7)) (fun _ _ => rfl))) (x_var (pv 4))) (by decide) (by decide) ⟨by decide, by decide⟩)))) (by decide) (by decide) ⟨by decide, by decide⟩)
 (bx_one (s_retV (i := 6) rfl (pv 6) (by decide) (by decide) ⟨by decide, by decide⟩)))))))))
theorem sc__law_cell : FnScope N__law_cell ["_law_script", "_law_k"] (defScope (top 8)) := ⟨rfl, rfl, rfl, by decide +kernel, rfl, by decide +kernel, by decide +kernel⟩
theorem ok__law_cell (B : Bl mg) (D : Dfn K mg "_law_cell" (top 8)) : Cal P w K mg base (L2.CX P w) 1 "_law_cell" ["_law_script", "_law_k"] (spF K 2 (F__law_cell A)) := by
  have S := sc__law_cell
  exact fn_ok (k := 0) D sc__law_cell (fun _ _ _ _ _ _ us hl => match us, hl with | [_, _], _ => rfl) fun f cdv Ar outer s H E hr =>
 (bx_cons (s_if (V := [0, 1]) (O' := []) (t_cmp p_lt (x_var (pv 1)) (x_callB c_len B.len (by decide +kernel) (a_cons (x_var (pv 0)) a_nil)) (nomark _))
 (bx_one (s_ret (V := [0, 1]) rfl (x_ix (x_var (pv 0)) (x_var (pv 1)) (fun _ _ => rfl)) (by decide) ⟨by decide, by decide⟩))
 bx_nil ⟨by decide, by decide⟩)
 (bx_one (s_ret (V := []) rfl x_int (by decide) ⟨by decide, by decide⟩)))
theorem sc__law_row : FnScope N__law_row ["_law_cell_here", "_law_sizes"] (defScope (top 9)) := ⟨rfl, rfl, rfl, by decide +kernel, rfl, by decide +kernel, by decide +kernel⟩
theorem ok__law_row (B : Bl mg) (D : Dfn K mg "_law_row" (top 9)) : Cal P w K mg base (L2.CX P w) 1 "_law_row" ["_law_cell_here", "_law_sizes"] (spF K 2 (F__law_row A)) := by
  have S := sc__law_row
  exact fn_ok (k := 0) D sc__law_row (fun _ _ _ _ _ _ us hl => match us, hl with | [_, _], _ => rfl) fun f cdv Ar outer s H E hr =>
 (bx_cons (s_setO (i := 2) (V := []) (O1 := []) (ps_set (i := 2) S.nd rfl (Or.inl rfl) pe_of) (o_lst a_nil) (by decide) (by decide) ⟨by decide, by decide⟩)
 (bx_cons (s_set (i := 3) (V := [0]) (O' := [2]) (fun _ h => ps_set (i := 3) S.nd rfl (Or.inl rfl) h) (x_op p_sub (x_var (pv 0)) (x_op p_pow x_int x_int)) (by decide) (by decide) ⟨by decide, by decide⟩)
 (bx_cons (s_for (V := [1]) (T := [4]) (O1 := [2]) (passes_of rfl) rfl (ix_rg1 (a_cons (x_callB c_len B.len (by decide +kernel) (a_cons (x_var (pv 1)) a_nil)) a_nil) B.range) (pg_name (i := 4) S.nd rfl (Or.inl rfl)) gt_name
  (bx_one (s_if (V := [0]) (O' := [2]) (t_cmp p_ge (x_var (pv 0)) (x_op p_pow x_int x_int) (nomark _))
 (bx_cons (s_mt (i := 2) (V := [1, 3, 4]) m_append (fun _ _ h1 h2 => ps_expr (pe_bm PySem.F.plainAttrs_list PySem.F.slot_list_append PySem.F.type_list_append h1 (pv 2) h2)) (a_cons (x_op p_mod (x_callTy c_int B.int (by decide +kernel) (a_cons (x_var (pv 3)) a_nil)) (x_ix (x_var (pv 1)) (x_var (pv 4)) (fun _ _ => rfl))) a_nil) (by decide) ⟨by decide, by decide⟩)
 (bx_one (s_set (i := 3) (V := [1, 3, 4]) (O' := [2]) (fun _ h => ps_set (i := 3) S.nd rfl (Or.inl rfl) h) (x_op p_fdiv (x_var (pv 3)) (x_ix (x_var (pv 1)) (x_var (pv 4)) (fun _ _ => rfl))) (by decide) (by decide) ⟨by decide, by decide⟩)))
 (bx_cons (s_set (i := 5) (V := [0, 4]) (O' := [2]) (fun _ h => ps_set (i := 5) S.nd rfl (Or.inl rfl) h) (x_op p_mod (x_callTy c_int B.int (by decide +kernel) (a_cons (x_op p_add (x_op p_add (x_var (pv 0)) (x_op p_mul x_int (x_var (pv 4)))) x_int) a_nil)) x_int) (by decide) (by decide) ⟨by decide, by decide⟩)
 (bx_cons (s_set (i := 5) (V := [5]) (O' := [2]) (fun _ h => ps_set (i := 5) S.nd rfl (Or.inl rfl) h) (x_op p_mod (x_callTy c_int B.int (by decide +kernel) (a_cons (x_op p_mul (x_var (pv 5)) (x_op p_add (x_var (pv 5)) x_int)) a_nil)) x_int) (by decide) (by decide) ⟨by decide, by decide⟩)
 (bx_cons (s_set (i := 5) (V := [4, 5]) (O' := [2]) (fun _ h => ps_set (i := 5) S.nd rfl (Or.inl rfl) h) (x_op p_mod (x_callTy c_int B.int (by decide +kernel) (a_cons (x_op p_add (x_op p_mul (x_var (pv 5)) (x_op p_add (x_var (pv 5)) x_int)) (x_op p_mul x_int (x_var (pv 4)))) a_nil)) x_int) (by decide) (by decide) ⟨by decide, by decide⟩)
 (bx_one (s_mt (i := 2) (V := [1, 4, 5]) m_append (fun _ _ h1 h2 => ps_expr (pe_bm PySem.F.plainAttrs_list PySem.F.slot_list_append PySem.F.type_list_append h1 (pv 2) h2)) (a_cons (x_op p_mod (x_callTy c_int B.int (by decide +kernel) (a_cons (x_op p_fdiv (x_var (pv 5)) x_int) a_nil)) (x_ix (x_var (pv 1)) (x_var (pv 4)) (fun _ _ => rfl))) a_nil) (by decide) ⟨by decide, by decide⟩))))) ⟨by decide, by decide⟩)) (by decide) (by decide) ⟨by decide, by decide⟩)
 (bx_one (s_ret (V := [2]) rfl (x_var (pv 2)) (by decide) ⟨by decide, by decide⟩)))))
theorem sc__law_is_integer : FnScope N__law_is_integer ["_law_actual"] (defScope (top 10)) := ⟨rfl, rfl, rfl, by decide +kernel, rfl, by decide +kernel, by decide +kernel⟩
theorem ok__law_is_integer (B : Bl mg) (D : Dfn K mg "_law_is_integer" (top 10)) : Cal P w K mg base (L2.CX P w) 1 "_law_is_integer" ["_law_actual"] (spF K 1 (F__law_is_integer A)) := by
  have S := sc__law_is_integer
  exact fn_ok (k := 0) D sc__law_is_integer (fun _ _ _ _ _ _ us hl => match us, hl with | [_], _ => rfl) fun f cdv Ar outer s H E hr =>
 (bx_one (s_ret (V := [0]) rfl (x_and (x_isT (x_var (pv 0)) B.isinstance (pe_bltn (v := .ty "int") (u := .type "int") (by rfl) B.int (by decide +kernel) rfl)) (x_one (x_not (x_isT (x_var (pv 0)) B.isinstance (pe_bltn (v := .ty "bool") (u := .type "bool") (by rfl) B.bool (by decide +kernel) rfl))))) (by decide) ⟨by decide, by decide⟩))
theorem sc__law_integers : FnScope N__law_integers ["_law_actual"] (defScope (top 11)) := ⟨rfl, rfl, rfl, by decide +kernel, rfl, by decide +kernel, by decide +kernel⟩
theorem ok__law_integers (B : Bl mg) (D : Dfn K mg "_law_integers" (top 11)) (c__law_is_integer : Cal P w K mg base (L2.CX P w) 1 "_law_is_integer" ["_law_actual"] (spF K 1 (F__law_is_integer A))) : Cal P w K mg base (L2.CX P w) 2 "_law_integers" ["_law_actual"] (spF K 1 (F__law_integers A)) := by
  have S := sc__law_integers
  exact fn_ok (k := 1) D sc__law_integers (fun _ _ _ _ _ _ us hl => match us, hl with | [_], _ => rfl) fun f cdv Ar outer s H E hr =>
 (bx_cons (s_if (V := [0]) (O' := []) (t_not (t_val (x_isT (x_var (pv 0)) B.isinstance (pe_bltn (v := .ty "list") (u := .type "list") (by rfl) B.list (by decide +kernel) rfl))))
 (bx_one (s_ret (V := []) rfl x_bl (by decide) ⟨by decide, by decide⟩))
 bx_nil ⟨by decide, by decide⟩)
 (bx_one (s_ret (V := [0, 1]) rfl (x_callB (c_all rfl) B.all (by decide +kernel) (a_cons (OX.ex (o_lc (own := [("_law_number", 1)]) rfl S.nd (ix_any (x_var (pv 0))) (blkOk_by (N := N__law_integers) (sc := defScope (top 11)) (by decide +kernel)) (fun _ _ _ _ _ => (pg_name (i := 1) S.nd rfl (Or.inl rfl))) gt_name (blkT (V := [1]) (fun _ _ _ _ _ => cx_nil)) (blkE (V := [1]) (fun _ _ _ _ _ => (x_call c__law_is_integer fnF_n hr takes0 (a_cons (x_var (pv 1)) a_nil)))) (by decide))) a_nil)) (by decide) ⟨by decide, by decide⟩)))
theorem sc__law_coins : FnScope N__law_coins ["_law_one", "_law_two"] (defScope (top 12)) := ⟨rfl, rfl, rfl, by decide +kernel, rfl, by decide +kernel, by decide +kernel⟩
theorem ok__law_coins (B : Bl mg) (D : Dfn K mg "_law_coins" (top 12)) (c__law_row : Cal P w K mg base (L2.CX P w) 1 "_law_row" ["_law_cell_here", "_law_sizes"] (spF K 2 (F__law_row A))) : Cal P w K mg base (L2.CX P w) 2 "_law_coins" ["_law_one", "_law_two"] (spF K 2 (F__law_coins A)) := by
  have S := sc__law_coins
  exact fn_ok (k := 1) D sc__law_coins (fun _ _ _ _ _ _ us hl => match us, hl with | [_, _], _ => rfl) fun f cdv Ar outer s H E hr =>
 (bx_cons (s_set (i := 2) (V := [0]) (O' := []) (fun _ h => ps_set (i := 2) S.nd rfl (Or.inr rfl) h) (x_call c__law_row fnF_n hr (takes_of rfl rfl rfl rfl) (a_cons (x_var (pv 0)) (a_cons (OX.ex (o_lst (a_cons x_int (a_cons x_int (a_cons x_int (a_cons x_int (a_cons x_int (a_cons x_int (a_cons x_int a_nil))))))))) a_nil))) (by decide) (by decide) ⟨by decide, by decide⟩)
 (bx_cons (s_set (i := 3) (V := [1]) (O' := []) (fun _ h => ps_set (i := 3) S.nd rfl (Or.inl rfl) h) (x_call c__law_row fnF_n hr (takes_of rfl rfl rfl rfl) (a_cons (x_var (pv 1)) (a_cons (OX.ex (o_lst (a_cons x_int (a_cons x_int (a_cons x_int (a_cons x_int (a_cons x_int (a_cons x_int (a_cons x_int a_nil))))))))) a_nil))) (by decide) (by decide) ⟨by decide, by decide⟩)
 (bx_cons (s_setLc (i := 4) (V := [2, 5]) (O1 := []) (own := [("_law_k", 5)]) rfl S.nd rfl rfl (sw_true rfl rfl rfl (by decide +kernel)) (ix_rg1 (a_cons (x_op p_add x_int (x_ix (x_var (pv 2)) x_int (fun _ _ => rfl))) a_nil) B.range) (blkOk_by (N := N__law_coins) (sc := defScope (top 12)) (by decide +kernel)) (fun _ _ _ _ _ => (pg_name (i := 5) S.nd rfl (Or.inl rfl))) gt_name (blkT (V := [2, 5]) (fun _ _ _ _ _ => cx_nil)) (blkE (V := [2, 5]) (fun _ _ _ _ _ => (x_op p_add x_int (x_ix (x_var (pv 2)) (x_op p_add x_int (x_var (pv 5))) (fun _ _ => rfl))))) (by decide) (by decide) (by decide) ⟨by decide, by decide⟩)
 (bx_cons (s_if (V := [3]) (O' := [4]) (t_cmp (p_eq hr.units) (x_ix (x_var (pv 3)) x_int (fun _ _ => rfl)) x_int (nomark _))
 (bx_one (s_sub (i := 4) (V := [3, 4]) (fun _ _ h1 h2 => ps_asg h1 (pg_sub (pv 4) h2 set_list)) (x_op p_add x_int (x_ix (x_var (pv 3)) x_int (fun _ _ => rfl))) (x_op p_mod (x_callTy c_int B.int (by decide +kernel) (a_cons (x_ix (x_var (pv 3)) x_int (fun _ _ => rfl)) a_nil)) (x_callB c_len B.len (by decide +kernel) (a_cons (x_var (pv 4)) a_nil))) (by decide) ⟨by decide, by decide⟩))
 bx_nil ⟨by decide, by decide⟩)
 (bx_cons (s_if (V := [3]) (O' := [4]) (t_cmp (p_eq hr.units) (x_ix (x_var (pv 3)) x_int (fun _ _ => rfl)) x_int (nomark _))
 (bx_one (s_sub (i := 4) (V := [3, 4]) (fun _ _ h1 h2 => ps_asg h1 (pg_sub (pv 4) h2 set_list)) (x_ix (x_var (pv 4)) (x_op p_mod (x_callTy c_int B.int (by decide +kernel) (a_cons (x_ix (x_var (pv 3)) x_int (fun _ _ => rfl)) a_nil)) (x_callB c_len B.len (by decide +kernel) (a_cons (x_var (pv 4)) a_nil))) (fun _ _ => rfl)) (x_op p_mod (x_callTy c_int B.int (by decide +kernel) (a_cons (x_ix (x_var (pv 3)) x_int (fun _ _ => rfl)) a_nil)) (x_callB c_len B.len (by decide +kernel) (a_cons (x_var (pv 4)) a_nil))) (by decide) ⟨by decide, by decide⟩))
 bx_nil ⟨by decide, by decide⟩)
 (bx_cons (s_set (i := 6) (V := [3]) (O' := [4]) (fun _ h => ps_set (i := 6) S.nd rfl (Or.inr rfl) h) (x_ix (OX.ex (o_lst (a_cons x_int (a_cons x_int (a_cons x_int (a_cons x_int (a_cons x_int (a_cons x_int a_nil)))))))) (x_ix (x_var (pv 3)) x_int (fun _ _ => rfl)) (fun _ _ => rfl)) (by decide) (by decide) ⟨by decide, by decide⟩)
 (bx_one (s_ret (V := [3, 4, 6, 7]) rfl (x_tup (a_cons (OX.ex (o_lc (own := [("_law_coin", 7)]) rfl S.nd (ix_any (x_var (pv 4))) (blkOk_by (N := N__law_coins) (sc := defScope (top 12)) (by decide +kernel)) (fun _ _ _ _ _ => (pg_name (i := 7) S.nd rfl (Or.inl rfl))) gt_name (blkT (V := [6, 7]) (fun _ _ _ _ _ => cx_nil)) (blkE (V := [6, 7]) (fun _ _ _ _ _ => (x_op p_mul (x_var (pv 7)) (x_var (pv 6))))) (by decide))) (a_cons (x_cmp p_lt (x_ix (x_var (pv 3)) x_int (fun _ _ => rfl)) x_int (nomark _)) a_nil))) (by decide) ⟨by decide, by decide⟩))))))))
theorem sc__law_measure : FnScope N__law_measure ["_law_coins_here"] (defScope (top 13)) := ⟨rfl, rfl, rfl, by decide +kernel, rfl, by decide +kernel, by decide +kernel⟩
theorem ok__law_measure (B : Bl mg) (D : Dfn K mg "_law_measure" (top 13)) : Cal P w K mg base (L2.CX P w) 1 "_law_measure" ["_law_coins_here"] (spF K 1 (F__law_measure A)) := by
  have S := sc__law_measure
  exact fn_ok (k := 0) D sc__law_measure (fun _ _ _ _ _ _ us hl => match us, hl with | [_], _ => rfl) fun f cdv Ar outer s H E hr =>
 (bx_cons (s_set (i := 1) (V := []) (O' := []) (fun _ h => ps_set (i := 1) S.nd rfl (Or.inl rfl) h) x_int (by decide) (by decide) ⟨by decide, by decide⟩)
 (bx_cons (s_for (V := []) (T := [2]) (O1 := []) (passes_of rfl) rfl (ix_rg2 (a_cons x_int (a_cons x_int a_nil)) B.range) (pg_name (i := 2) S.nd rfl (Or.inr rfl)) gt_name
  (bx_one (s_if (V := [0, 2, 3]) (O' := []) (t_val (x_callB (c_all rfl) B.all (by decide +kernel) (a_cons (OX.ex (o_lc (own := [("_law_coin", 3)]) rfl S.nd (ix_any (x_var (pv 0))) (blkOk_by (N := N__law_measure) (sc := defScope (top 13)) (by decide +kernel)) (fun _ _ _ _ _ => (pg_name (i := 3) S.nd rfl (Or.inl rfl))) gt_name (blkT (V := [2, 3]) (fun _ _ _ _ _ => cx_nil)) (blkE (V := [2, 3]) (fun _ _ _ _ _ => (x_cmp (p_eq hr.units) (x_op p_mod (x_callTy c_int B.int (by decide +kernel) (a_cons (x_var (pv 3)) a_nil)) (x_var (pv 2))) x_int (nomark _)))) (by decide))) a_nil)))
 (bx_one (s_set (i := 1) (V := [2]) (O' := []) (fun _ h => ps_set (i := 1) S.nd rfl (Or.inl rfl) h) (x_var (pv 2)) (by decide) (by decide) ⟨by decide, by decide⟩))
 bx_nil ⟨by decide, by decide⟩)) (by decide) (by decide) ⟨by decide, by decide⟩)
 (bx_one (s_ret (V := [1]) rfl (x_var (pv 1)) (by decide) ⟨by decide, by decide⟩))))
theorem sc__law_payable : FnScope N__law_payable ["_law_units"] (defScope (top 14)) := ⟨rfl, rfl, rfl, by decide +kernel, rfl, by decide +kernel, by decide +kernel⟩
theorem ok__law_payable (B : Bl mg) (D : Dfn K mg "_law_payable" (top 14)) : Cal P w K mg base (L2.CX P w) 1 "_law_payable" ["_law_units"] (spF K 1 (F__law_payable A)) := by
  have S := sc__law_payable
  exact fn_ok (k := 0) D sc__law_payable (fun _ _ _ _ _ _ us hl => match us, hl with | [_], _ => rfl) fun f cdv Ar outer s H E hr =>
 (bx_cons (s_setO (i := 1) (V := []) (O1 := []) (ps_set (i := 1) S.nd rfl (Or.inr rfl) pe_of) (o_lst (a_cons x_bl a_nil)) (by decide) (by decide) ⟨by decide, by decide⟩)
 (bx_cons (s_for (V := [0]) (T := [2]) (O1 := [1]) (passes_of rfl) rfl (ix_rg2 (a_cons x_int (a_cons (x_op p_add (x_op p_mul (x_callB (c_min1 rfl (hu1 hr)) B.min (by decide +kernel) (a_cons (x_var (pv 0)) a_nil)) (x_callB (c_max1 rfl (hu1 hr)) B.max (by decide +kernel) (a_cons (x_var (pv 0)) a_nil))) x_int) a_nil)) B.range) (pg_name (i := 2) S.nd rfl (Or.inr rfl)) gt_name
  (bx_one (s_mt (i := 1) (V := [0, 1, 2, 3]) m_append (fun _ _ h1 h2 => ps_expr (pe_bm PySem.F.plainAttrs_list PySem.F.slot_list_append PySem.F.type_list_append h1 (pv 1) h2)) (a_cons (x_callB (c_any rfl) B.any (by decide +kernel) (a_cons (OX.ex (o_lc (own := [("_law_unit", 3)]) rfl S.nd (ix_any (x_var (pv 0))) (blkOk_by (N := N__law_payable) (sc := defScope (top 14)) (by decide +kernel)) (fun _ _ _ _ _ => (pg_name (i := 3) S.nd rfl (Or.inl rfl))) gt_name (blkT (V := [1, 2, 3]) (fun _ _ _ _ _ => (cx_one (t_cmp p_le (x_var (pv 3)) (x_var (pv 2)) (nomark _))))) (blkE (V := [1, 2, 3]) (fun _ _ _ _ _ => (x_ix (x_var (pv 1)) (x_op p_sub (x_var (pv 2)) (x_var (pv 3))) (fun _ _ => rfl)))) (by decide))) a_nil)) a_nil) (by decide) ⟨by decide, by decide⟩)) (by decide) (by decide) ⟨by decide, by decide⟩)
 (bx_one (s_ret (V := [1]) rfl (x_var (pv 1)) (by decide) ⟨by decide, by decide⟩))))
theorem sc__law_handed : FnScope N__law_handed ["_law_coins_here", "_law_loose"] (defScope (top 15)) := ⟨rfl, rfl, rfl, by decide +kernel, rfl, by decide +kernel, by decide +kernel⟩
theorem ok__law_handed (B : Bl mg) (D : Dfn K mg "_law_handed" (top 15)) : Cal P w K mg base (L2.CX P w) 1 "_law_handed" ["_law_coins_here", "_law_loose"] (spF K 2 (F__law_handed A)) := by
  have S := sc__law_handed
  exact fn_ok (k := 0) D sc__law_handed (fun _ _ _ _ _ _ us hl => match us, hl with | [_, _], _ => rfl) fun f cdv Ar outer s H E hr =>
 (bx_cons (s_if (V := [1]) (O' := []) (t_val (x_var (pv 1)))
 (bx_one (s_ret (V := [0]) rfl (x_callTy c_tun B.tuple (by decide +kernel) (a_cons (x_var (pv 0)) a_nil)) (by decide) ⟨by decide, by decide⟩))
 bx_nil ⟨by decide, by decide⟩)
 (bx_one (s_ret (V := [0]) rfl (OX.ex (o_callTy c_list B.list (by decide +kernel) (a_cons (x_var (pv 0)) a_nil))) (by decide) ⟨by decide, by decide⟩)))
theorem sc__law_pays : FnScope N__law_pays ["_law_coins_here", "_law_loose", "_law_amount", "_law_payable_here"] (defScope (top 16)) := ⟨rfl, rfl, rfl, by decide +kernel, rfl, by decide +kernel, by decide +kernel⟩
theorem ok__law_pays (B : Bl mg) (D : Dfn K mg "_law_pays" (top 16)) (c__law_handed : Cal P w K mg base (L2.CX P w) 1 "_law_handed" ["_law_coins_here", "_law_loose"] (spF K 2 (F__law_handed A))) (c_pay : Cal P w K mg base (L2.CX P w) 2 "pay" ["coins", "amount"] (spO K 2 (F_pay A))) (c__law_integers : Cal P w K mg base (L2.CX P w) 2 "_law_integers" ["_law_actual"] (spF K 1 (F__law_integers A))) : Cal P w K mg base (L2.CX P w) 3 "_law_pays" ["_law_coins_here", "_law_loose", "_law_amount", "_law_payable_here"] (spF K 4 (F__law_pays A)) := by
  have S := sc__law_pays
  exact fn_ok (k := 2) D sc__law_pays (fun _ _ _ _ _ _ us hl => match us, hl with | [_, _, _, _], _ => rfl) fun f cdv Ar outer s H E hr =>
 (bx_cons (s_set (i := 4) (V := [0, 1]) (O' := []) (fun _ h => ps_set (i := 4) S.nd rfl (Or.inl rfl) h) (x_call c__law_handed fnF_n hr (takes_of rfl rfl rfl rfl) (a_cons (x_var (pv 0)) (a_cons (x_var (pv 1)) a_nil))) (by decide) (by decide) ⟨by decide, by decide⟩)
 (bx_cons (s_for (V := []) (T := [5]) (O1 := []) (passes_of rfl) rfl (ix_rg1 (a_cons x_int a_nil) B.range) (pg_name (i := 5) S.nd rfl (Or.inl rfl)) gt_name
  (bx_out (OA := []) (by decide) (by decide) (bx_cons (s_setO (i := 6) (V := [2, 4]) (O1 := []) (ps_set (i := 6) S.nd rfl (Or.inr rfl) pe_of) (o_call c_pay fnO_n hr (takes_of rfl rfl rfl rfl) (a_cons (x_var (pv 4)) (a_cons (x_var (pv 2)) a_nil))) (by decide) (by decide) ⟨by decide, by decide⟩)
 (bx_cons (s_if (V := [3]) (O' := [6]) (t_val (x_var (pv 3)))
 (bx_cons (s_if (V := [0, 6]) (O' := [6]) (u_t (u_or (t_not (t_val (x_call c__law_integers fnF_n hr (takes_of rfl rfl rfl rfl) (a_cons (x_var (pv 6)) a_nil)))) (u_or1 (t_cmp (p_ne hr.units) (x_callB c_len B.len (by decide +kernel) (a_cons (x_var (pv 6)) a_nil)) (x_callB c_len B.len (by decide +kernel) (a_cons (x_var (pv 0)) a_nil)) (nomark _)))))
 (bx_one (s_ret (V := []) rfl x_bl (by decide) ⟨by decide, by decide⟩))
 bx_nil ⟨by decide, by decide⟩)
 (bx_cons (s_if (V := [0, 2, 6, 7]) (O' := [6]) (u_t (u_or (t_cmp p_lt (x_callB (c_min1 rfl (hu1 hr)) B.min (by decide +kernel) (a_cons (x_var (pv 6)) a_nil)) x_int (nomark _)) (u_or1 (t_cmp (p_ne hr.units) (x_callB (c_sum rfl) B.sum (by decide +kernel) (a_cons (OX.ex (o_lc (own := [("_law_k", 7)]) rfl S.nd (ix_rg1 (a_cons (x_callB c_len B.len (by decide +kernel) (a_cons (x_var (pv 0)) a_nil)) a_nil) B.range) (blkOk_by (N := N__law_pays) (sc := defScope (top 16)) (by decide +kernel)) (fun _ _ _ _ _ => (pg_name (i := 7) S.nd rfl (Or.inl rfl))) gt_name (blkT (V := [0, 6, 7]) (fun _ _ _ _ _ => cx_nil)) (blkE (V := [0, 6, 7]) (fun _ _ _ _ _ => (x_op p_mul (x_ix (x_var (pv 6)) (x_var (pv 7)) (fun _ _ => rfl)) (x_ix (x_var (pv 0)) (x_var (pv 7)) (fun _ _ => rfl))))) (by decide))) a_nil)) (x_var (pv 2)) (nomark _)))))
 (bx_one (s_ret (V := []) rfl x_bl (by decide) ⟨by decide, by decide⟩))
 bx_nil ⟨by decide, by decide⟩)
 (bx_one (s_mt (i := 6) (V := []) m_append (fun _ _ h1 h2 => ps_expr (pe_bm PySem.F.plainAttrs_list PySem.F.slot_list_append PySem.F.type_list_append h1 (pv 6) h2)) (a_cons x_int a_nil) (by decide) ⟨by decide, by decide⟩))))
 bx_nil ⟨by decide, by decide⟩)
 (bx_one (s_if (V := [3, 6]) (O' := [6]) (u_t (u_and (t_not (t_val (x_var (pv 3)))) (u_and1 (t_cmp p_notN (x_var (pv 6)) x_non (nomark _)))))
 (bx_one (s_ret (V := []) rfl x_bl (by decide) ⟨by decide, by decide⟩))
 bx_nil ⟨by decide, by decide⟩))))) (by decide) (by decide) ⟨by decide, by decide⟩)
 (bx_one (s_ret (V := [0, 4]) rfl (x_cmp (p_eq hr.units) (OX.ex (o_callTy c_list B.list (by decide +kernel) (a_cons (x_var (pv 4)) a_nil))) (x_var (pv 0)) (nomark _)) (by decide) ⟨by decide, by decide⟩))))
theorem sc_law : FnScope N_law ["_law_script"] (defScope (top 17)) := ⟨rfl, rfl, rfl, by decide +kernel, rfl, by decide +kernel, by decide +kernel⟩
theorem okF_law {fL : Addr} {fdL : FuncData} (B : Bl mg) (FL : FunD K "law" "law" (defArgs (top 17)) (defBody (top 17)) (defScope (top 17)) [] [] fL fdL) (c__law_coins : Cal P w K mg base (L2.CX P w) 2 "_law_coins" ["_law_one", "_law_two"] (spF K 2 (F__law_coins A))) (c__law_cell : Cal P w K mg base (L2.CX P w) 1 "_law_cell" ["_law_script", "_law_k"] (spF K 2 (F__law_cell A))) (c__law_measure : Cal P w K mg base (L2.CX P w) 1 "_law_measure" ["_law_coins_here"] (spF K 1 (F__law_measure A))) (c__law_payable : Cal P w K mg base (L2.CX P w) 1 "_law_payable" ["_law_units"] (spF K 1 (F__law_payable A))) (c__law_handed : Cal P w K mg base (L2.CX P w) 1 "_law_handed" ["_law_coins_here", "_law_loose"] (spF K 2 (F__law_handed A))) (c_sure_amount : Cal P w K mg base (L2.CX P w) 2 "sure_amount" ["coins"] (spF K 1 (F_sure_amount A))) (c__law_is_integer : Cal P w K mg base (L2.CX P w) 1 "_law_is_integer" ["_law_actual"] (spF K 1 (F__law_is_integer A))) (c__law_row : Cal P w K mg base (L2.CX P w) 1 "_law_row" ["_law_cell_here", "_law_sizes"] (spF K 2 (F__law_row A))) (c__law_pays : Cal P w K mg base (L2.CX P w) 3 "_law_pays" ["_law_coins_here", "_law_loose", "_law_amount", "_law_payable_here"] (spF K 4 (F__law_pays A))) : FnOk P w K mg base (L2.CX P w) 4 fL fdL ["_law_script"] (spF K 1 (F_law A)) := by
  have S := sc_law
  exact fn_okF (k := 3) FL sc_law fun cdv Ar outer s H E hr =>
 (bx_cons (s_set (i := 1) (V := [0]) (O' := []) (fun _ h => ps_set (i := 1) S.nd rfl (Or.inl rfl) h) (x_call c__law_coins fnF_n hr (takes_of rfl rfl rfl rfl) (a_cons (x_call c__law_cell fnF_n hr (takes_of rfl rfl rfl rfl) (a_cons (x_var (pv 0)) (a_cons x_int a_nil))) (a_cons (x_call c__law_cell fnF_n hr (takes_of rfl rfl rfl rfl) (a_cons (x_var (pv 0)) (a_cons x_int a_nil))) a_nil))) (by decide) (by decide) ⟨by decide, by decide⟩)
 (bx_cons (s_set (i := 2) (V := [1]) (O' := []) (fun _ h => ps_set (i := 2) S.nd rfl (Or.inl rfl) h) (x_ix (x_var (pv 1)) x_int (fun _ _ => rfl)) (by decide) (by decide) ⟨by decide, by decide⟩)
 (bx_cons (s_set (i := 3) (V := [2]) (O' := []) (fun _ h => ps_set (i := 3) S.nd rfl (Or.inr rfl) h) (x_call c__law_measure fnF_n hr (takes_of rfl rfl rfl rfl) (a_cons (x_var (pv 2)) a_nil)) (by decide) (by decide) ⟨by decide, by decide⟩)
 (bx_cons (s_set (i := 4) (V := [2, 3, 5]) (O' := []) (fun _ h => ps_set (i := 4) S.nd rfl (Or.inl rfl) h) (x_call c__law_payable fnF_n hr (takes_of rfl rfl rfl rfl) (a_cons (OX.ex (o_lc (own := [("_law_coin", 5)]) rfl S.nd (ix_any (x_var (pv 2))) (blkOk_by (N := N_law) (sc := defScope (top 17)) (by decide +kernel)) (fun _ _ _ _ _ => (pg_name (i := 5) S.nd rfl (Or.inl rfl))) gt_name (blkT (V := [3, 5]) (fun _ _ _ _ _ => cx_nil)) (blkE (V := [3, 5]) (fun _ _ _ _ _ => (x_op p_fdiv (x_var (pv 5)) (x_var (pv 3))))) (by decide))) a_nil)) (by decide) (by decide) ⟨by decide, by decide⟩)
 (bx_cons (s_set (i := 6) (V := []) (O' := []) (fun _ h => ps_set (i := 6) S.nd rfl (Or.inl rfl) h) x_int (by decide) (by decide) ⟨by decide, by decide⟩)
 (bx_cons (s_for (V := [4]) (T := [7]) (O1 := []) (passes_of rfl) rfl (ix_rg1 (a_cons (x_callB c_len B.len (by decide +kernel) (a_cons (x_var (pv 4)) a_nil)) a_nil) B.range) (pg_name (i := 7) S.nd rfl (Or.inl rfl)) gt_name
  (bx_one (s_if (V := [4, 7]) (O' := []) (t_not (t_val (x_ix (x_var (pv 4)) (x_var (pv 7)) (fun _ _ => rfl))))
 (bx_one (s_set (i := 6) (V := [3, 7]) (O' := []) (fun _ h => ps_set (i := 6) S.nd rfl (Or.inl rfl) h) (x_op p_mul (x_op p_add (x_var (pv 7)) x_int) (x_var (pv 3))) (by decide) (by decide) ⟨by decide, by decide⟩))
 bx_nil ⟨by decide, by decide⟩)) (by decide) (by decide) ⟨by decide, by decide⟩)
 (bx_cons (s_set (i := 8) (V := [1, 2]) (O' := []) (fun _ h => ps_set (i := 8) S.nd rfl (Or.inl rfl) h) (x_call c__law_handed fnF_n hr (takes_of rfl rfl rfl rfl) (a_cons (x_var (pv 2)) (a_cons (x_ix (x_var (pv 1)) x_int (fun _ _ => rfl)) a_nil))) (by decide) (by decide) ⟨by decide, by decide⟩)
 (bx_cons (s_for (V := []) (T := [9]) (O1 := []) (passes_of rfl) rfl (ix_rg1 (a_cons x_int a_nil) B.range) (pg_name (i := 9) S.nd rfl (Or.inl rfl)) gt_name
  (bx_cons (s_set (i := 10) (V := [8]) (O' := []) (fun _ h => ps_set (i := 10) S.nd rfl (Or.inl rfl) h) (x_call c_sure_amount fnF_n hr (takes_of rfl rfl rfl rfl) (a_cons (x_var (pv 8)) a_nil)) (by decide) (by decide) ⟨by decide, by decide⟩)
 (bx_one (s_if (V := [6, 10]) (O' := []) (u_t (u_or (t_not (t_val (x_call c__law_is_integer fnF_n hr (takes_of rfl rfl rfl rfl) (a_cons (x_var (pv 10)) a_nil)))) (u_or1 (t_cmp (p_ne hr.units) (x_var (pv 10)) (x_var (pv 6)) (nomark _)))))
 (bx_one (s_ret (V := []) rfl x_bl (by decide) ⟨by decide, by decide⟩))
 bx_nil ⟨by decide, by decide⟩))) (by decide) (by decide) ⟨by decide, by decide⟩)
 (bx_cons (s_set (i := 11) (V := [0]) (O' := []) (fun _ h => ps_set (i := 11) S.nd rfl (Or.inl rfl) h) (x_call c__law_row fnF_n hr (takes_of rfl rfl rfl rfl) (a_cons (x_call c__law_cell fnF_n hr (takes_of rfl rfl rfl rfl) (a_cons (x_var (pv 0)) (a_cons x_int a_nil))) (a_cons (OX.ex (o_lst (a_cons x_int (a_cons x_int (a_cons x_int (a_cons x_int (a_cons x_int (a_cons x_int a_nil)))))))) a_nil))) (by decide) (by decide) ⟨by decide, by decide⟩)
 (bx_cons (s_setO (i := 12) (V := [3, 6, 11]) (O1 := []) (ps_set (i := 12) S.nd rfl (Or.inl rfl) pe_of) (o_lst (a_cons x_int (a_cons (x_ix (x_var (pv 11)) x_int (fun _ _ => rfl)) (a_cons (x_var (pv 6)) (a_cons (x_op p_add (x_var (pv 6)) (x_ix (x_var (pv 11)) x_int (fun _ _ => rfl))) (a_cons (x_callB (c_max2 rfl) B.max (by decide +kernel) (a_cons x_int (a_cons (x_op p_sub (x_var (pv 6)) (x_var (pv 3))) a_nil))) (a_cons (x_op p_add (x_var (pv 6)) (x_var (pv 3))) (a_cons (x_op p_add (x_var (pv 6)) x_int) a_nil)))))))) (by decide) (by decide) ⟨by decide, by decide⟩)
 (bx_cons (s_setOR (i := 12) (V := [6, 11, 12]) (O1 := []) (ps_set (i := 12) S.nd rfl (Or.inl rfl) pe_of) (o_op p_cat (x_var (pv 12)) (OX.ex (o_lst (a_cons (x_op p_mod (x_callTy c_int B.int (by decide +kernel) (a_cons (x_ix (x_var (pv 11)) x_int (fun _ _ => rfl)) a_nil)) (x_op p_add (x_var (pv 6)) x_int)) (a_cons (x_op p_mod (x_callTy c_int B.int (by decide +kernel) (a_cons (x_ix (x_var (pv 11)) x_int (fun _ _ => rfl)) a_nil)) (x_op p_add (x_var (pv 6)) x_int)) a_nil))))) (by decide) (by decide) ⟨by decide, by decide⟩)
 (bx_cons (s_if (V := [11]) (O' := [12]) (t_cmp (p_eq hr.units) (x_ix (x_var (pv 11)) x_int (fun _ _ => rfl)) x_int (nomark _))
 (bx_one (s_mt (i := 12) (V := [11]) m_append (fun _ _ h1 h2 => ps_expr (pe_bm PySem.F.plainAttrs_list PySem.F.slot_list_append PySem.F.type_list_append h1 (pv 12) h2)) (a_cons (x_op p_add x_int (x_ix (x_var (pv 11)) x_int (fun _ _ => rfl))) a_nil) (by decide) ⟨by decide, by decide⟩))
 bx_nil ⟨by decide, by decide⟩)
 (bx_cons (s_for (V := [12]) (T := [13]) (O1 := []) (passes_of rfl) rfl (ix_any (x_var (pv 12))) (pg_name (i := 13) S.nd rfl (Or.inl rfl)) gt_name
  (bx_cons (s_set (i := 14) (V := [3, 13]) (O' := []) (fun _ h => ps_set (i := 14) S.nd rfl (Or.inl rfl) h) (x_cmp (p_eq hr.units) (x_op p_mod (x_callTy c_int B.int (by decide +kernel) (a_cons (x_var (pv 13)) a_nil)) (x_var (pv 3))) x_int (nomark _)) (by decide) (by decide) ⟨by decide, by decide⟩)
 (bx_cons (s_if (V := [3, 4, 13, 14]) (O' := []) (u_t (u_and (t_val (x_var (pv 14))) (u_and1 (t_cmp p_lt (x_op p_fdiv (x_var (pv 13)) (x_var (pv 3))) (x_callB c_len B.len (by decide +kernel) (a_cons (x_var (pv 4)) a_nil)) (nomark _)))))
 (bx_one (s_set (i := 14) (V := [3, 4, 13]) (O' := []) (fun _ h => ps_set (i := 14) S.nd rfl (Or.inl rfl) h) (x_ix (x_var (pv 4)) (x_op p_fdiv (x_var (pv 13)) (x_var (pv 3))) (fun _ _ => rfl)) (by decide) (by decide) ⟨by decide, by decide⟩))
 bx_nil ⟨by decide, by decide⟩)
 (bx_one (s_if (V := [1, 2, 13, 14]) (O' := []) (t_not (t_val (x_call c__law_pays fnF_n hr (takes_of rfl rfl rfl rfl) (a_cons (x_var (pv 2)) (a_cons (x_ix (x_var (pv 1)) x_int (fun _ _ => rfl)) (a_cons (x_var (pv 13)) (a_cons (x_var (pv 14)) a_nil)))))))
 (bx_one (s_ret (V := []) rfl x_bl (by decide) ⟨by decide, by decide⟩))
 bx_nil ⟨by decide, by decide⟩)))) (by decide) (by decide) ⟨by decide, by decide⟩)
 (bx_one (s_ret (V := [2, 8]) rfl (x_cmp (p_eq hr.units) (OX.ex (o_callTy c_list B.list (by decide +kernel) (a_cons (x_var (pv 8)) a_nil))) (x_var (pv 2)) (nomark _)) (by decide) ⟨by decide, by decide⟩)))))))))))))))
end
end Lh.P
set_option Elab.async false
set_option linter.all false
set_option maxRecDepth 100000
set_option maxHeartbeats 1000000
/-! Pure: what the worths' pieces come to, whatever the def. -/
namespace Lh.P
open PySem PySem.Spec PyProof.Rows L2 _root_.SX
namespace B
@[simp] theorem bind_ok {α β : Type} (a : α) (f : α → Rs β) : (Rs.ok a).bind f = f a := rfl
@[simp] theorem okB_ok {α β : Type} (a : α) (f : α → Rs β) : (Rs.ok a).okB f = f a := rfl
@[simp] theorem isB_bl (b : Bool) : isB (.bl b) = .ok b := rfl
@[simp] theorem outE_ok {α : Type} (a : α) (Γ : Env) (k : α → Out) : outE (.ok a) Γ k = k a := rfl
@[simp] theorem bind_ite {α β : Type} {c : Prop} [Decidable c] (x y : Rs α) (f : α → Rs β) : (if c then x else y).bind f = if c then x.bind f else y.bind f := by split <;> rfl
@[simp] theorem outE_ite {α : Type} {c : Prop} [Decidable c] (x y : Rs α) (Γ : Env) (k : α → Out) : outE (if c then x else y) Γ k = if c then outE x Γ k else outE y Γ k := by split <;> rfl
theorem atI_nn {α : Type} {xs : List α} {i : Int} (h : 0 ≤ i) : atI xs i = xs[i.toNat]? := by
  unfold atI ixN
  rw [if_pos h]
  by_cases h1 : i < xs.length
  · rw [if_pos h1]; rfl
  · rw [if_neg h1]
    have : xs.length ≤ i.toNat := by omega
    rw [List.getElem?_eq_none this]
    rfl
theorem atI_some {α : Type} {xs : List α} {i : Int} {x : α} (h : 0 ≤ i) (e : xs[i.toNat]? = some x) : atI xs i = some x := (atI_nn h).trans e
theorem pEq_int (i j : Int) : pEq (.int i) (.int j) = .ok (.bl (decide (i = j))) := by
  show Rs.ok (PV.bl (PyData.eqv (.int i) (.int j))) = _
  congr 2
theorem pNe_int (i j : Int) : pNe (.int i) (.int j) = .ok (.bl (!decide (i = j))) := by
  show Rs.ok (PV.bl (!PyData.eqv (.int i) (.int j))) = _
  congr 2
theorem pMod_pos {i j : Int} (h : 0 < j) : pMod (.int i) (.int j) = .ok (.int (i % j)) := by
  show (if 0 < j then _ else _) = _
  rw [if_pos h]
theorem pFdiv_pos {i j : Int} (h : 0 < j) (h2 : j < 1073741824) : pFdiv (.int i) (.int j) = .ok (.int (i / j)) := by
  show (if 0 < j ∧ j < 1073741824 then _ else _) = _
  rw [if_pos ⟨h, h2⟩]
theorem pMul_lo {i j : Int} (h : -1000000000000000000 ≤ i ∧ i ≤ 1000000000000000000) : pMul (.int i) (.int j) = .ok (.int (i * j)) := by
  show (if _ ∨ _ then _ else _) = _
  rw [if_pos (.inl h)]
theorem pMul_hi {i j : Int} (h : -1000000000000000000 ≤ j ∧ j ≤ 1000000000000000000) : pMul (.int i) (.int j) = .ok (.int (i * j)) := by
  show (if _ ∨ _ then _ else _) = _
  rw [if_pos (.inr h)]
@[simp] theorem pAdd_int (i j : Int) : pAdd (.int i) (.int j) = .ok (.int (i + j)) := rfl
@[simp] theorem iSub_int (i j : Int) : iSub (.int i) (.int j) = .ok (.int (i - j)) := rfl
@[simp] theorem i2_int (g : Int → Int → PV) (i j : Int) : i2 g (.int i) (.int j) = .ok (g i j) := rfl
/-! ### rows of ints -/
theorem intRow_map : ∀ ns : List Int, intRow (ns.map .int) = some ns
  | [] => rfl
  | n :: ns => by
    show (intRow (ns.map .int)).map (n :: ·) = _
    rw [intRow_map ns]; rfl
/-- a row of ints: as a list, or as a plain tuple -/
def rw_ (k : Bool) (ns : List Int) : PV := if k then .tun (ns.map .int) else .lst (ns.map .int)
theorem best_rw (f : Int → Int → Int) (k : Bool) (n : Int) (ns : List Int) : pBest f [rw_ k (n :: ns)] = .ok (.int (ns.foldl f n)) := by
  unfold rw_
  cases k <;>
  · show (match intRow ((n :: ns).map .int) with
      | some (n :: ns) => (Rs.ok (PV.int (ns.foldl f n)) : Rs PV)
      | _ => Rs.bad) = _
    rw [intRow_map]
@[simp] theorem len_rw (k : Bool) (ns : List Int) : pLen [rw_ k ns] = .ok (.int ns.length) := by
  unfold rw_
  cases k <;> simp [pLen]
@[simp] theorem items_rw (k : Bool) (ns : List Int) : pItems (rw_ k ns) = .ok (ns.map .int) := by
  unfold rw_
  cases k <;> rfl
@[simp] theorem enum_rw (k : Bool) (ns : List Int) : pEnum [rw_ k ns] = .ok (enP 0 (ns.map .int)) := by
  unfold rw_
  cases k <;> rfl
@[simp] theorem list_rw (k : Bool) (ns : List Int) : pList [rw_ k ns] = .ok (.lst (ns.map .int)) := by
  unfold rw_
  cases k <;> rfl
theorem ix_rw {k : Bool} {ns : List Int} {i x : Int} (h : 0 ≤ i) (e : ns[i.toNat]? = some x) : pIx (rw_ k ns) (.int i) = .ok (.int x) := by
  have e2 : (ns.map PV.int)[i.toNat]? = some (.int x) := by rw [List.getElem?_map, e]; rfl
  unfold rw_
  cases k
  · show ofO (atI _ i) = _; rw [atI_some h e2]; rfl
  · show ofO (atI _ i) = _; rw [atI_some h e2]; rfl
theorem ix_lst {xs : List PV} {i : Int} {x : PV} (h : 0 ≤ i) (e : xs[i.toNat]? = some x) : pIx (.lst xs) (.int i) = .ok x := by
  show ofO (atI xs i) = _; rw [atI_some h e]; rfl
theorem ix_tup {xs : List PV} {i : Int} {x : PV} (h : 0 ≤ i) (e : xs[i.toNat]? = some x) : pIx (.tup xs) (.int i) = .ok x := by
  show ofO (atI xs i) = _; rw [atI_some h e]; rfl
theorem eqF_int (a b : Int) : eqF (.int a) (.int b) = decide (a = b) := by
  show (a == b) = _
  by_cases h : a = b <;> simp [h]
theorem flat_map (ns : List Int) : (ns.map PV.int).all flatP = true := by
  rw [List.all_eq_true]
  intro x hx
  obtain ⟨i, _, rfl⟩ := List.mem_map.mp hx
  rfl
theorem index_rw {k : Bool} {ns : List Int} {y : Int} (h : y ∈ ns) : ∃ j, ns[j]? = some y ∧ (∀ i x, i < j → ns[i]? = some x → x ≠ y) ∧ pIndex (rw_ k ns) (.int y) = .ok (.int (j : Nat)) := by
  have hx : ∃ j, (ns.map PV.int).findIdx? (fun z => eqF z (.int y)) = some j := by
    cases e : (ns.map PV.int).findIdx? (fun z => eqF z (.int y)) with
    | some j => exact ⟨j, rfl⟩
    | none =>
      have := List.findIdx?_eq_none_iff.mp e (.int y) (List.mem_map.mpr ⟨y, h, rfl⟩)
      rw [eqF_int] at this
      simp at this
  obtain ⟨j, hj⟩ := hx
  obtain ⟨h1, h2, h3⟩ := List.findIdx?_eq_some_iff_getElem.mp hj
  have h1' : j < ns.length := by simpa using h1
  refine ⟨j, ?_, fun i x hi e => ?_, ?_⟩
  · rw [List.getElem_map, eqF_int] at h2
    rw [List.getElem?_eq_getElem h1']
    exact congrArg some (of_decide_eq_true h2)
  · have := h3 i hi
    rw [List.getElem_map, eqF_int] at this
    have hi2 : i < ns.length := by omega
    rw [List.getElem?_eq_getElem hi2] at e
    cases e
    simpa using this
  · have e : ∀ xs : List PV, xs = ns.map PV.int → (if flatP (.int y) = true ∧ xs.all flatP = true then (match xs.findIdx? (fun z => eqF z (.int y)) with
      | some j => Rs.ok (PV.int (j : Nat))
      | none => .bad) else .bad) = .ok (.int (j : Nat)) := fun xs hxs => by
      subst hxs
      rw [if_pos ⟨rfl, flat_map ns⟩, hj]
    unfold pIndex rw_
    cases k
    · exact e _ rfl
    · exact e _ rfl
/-! ### expressions -/
theorem b2_ok {f g : Env → Rs PV} {k : PV → PV → Rs PV} {Γ : Env} {x y : PV} (h1 : f Γ = .ok x) (h2 : g Γ = .ok y) : b2 f g k Γ = k x y := by unfold b2; rw [h1, bind_ok, h2, bind_ok]
theorem b1_ok {f : Env → Rs PV} {k : PV → Rs PV} {Γ : Env} {x : PV} (h1 : f Γ = .ok x) : b1 f k Γ = k x := by unfold b1; rw [h1, bind_ok]
theorem bC1_ok {f : Env → Rs PV} {g : List PV → Rs PV} {Γ : Env} {x : PV} (h : f Γ = .ok x) : bC (aCons f aNil) g Γ = g [x] := by unfold bC aCons; rw [h]; rfl
theorem bC2_ok {f f2 : Env → Rs PV} {g : List PV → Rs PV} {Γ : Env} {x y : PV} (h : f Γ = .ok x) (h2 : f2 Γ = .ok y) : bC (aCons f (aCons f2 aNil)) g Γ = g [x, y] := by unfold bC aCons; rw [h, bind_ok, h2]; rfl
theorem bC4_ok {f f2 f3 f4 : Env → Rs PV} {g : List PV → Rs PV} {Γ : Env} {x y z u : PV} (h : f Γ = .ok x) (h2 : f2 Γ = .ok y) (h3 : f3 Γ = .ok z) (h4 : f4 Γ = .ok u) : bC (aCons f (aCons f2 (aCons f3 (aCons f4 aNil)))) g Γ = g [x, y, z, u] := by
  unfold bC aCons; rw [h, bind_ok, h2, bind_ok, h3, bind_ok, h4]; rfl
theorem bT_ok {f : Env → Rs PV} {Γ : Env} {b : Bool} (h : f Γ = .ok (.bl b)) : bT f Γ = .ok b := by unfold bT; rw [h]; rfl
theorem bNot_ok {f : Env → Rs Bool} {Γ : Env} {b : Bool} (h : f Γ = .ok b) : bNot f Γ = .ok (!b) := by unfold bNot; rw [h]; rfl
theorem bOr_no {f g : Env → Rs Bool} {Γ : Env} (h : f Γ = .ok false) : bOr f g Γ = g Γ := by unfold bOr; rw [h]; rfl
theorem bOr_yes {f g : Env → Rs Bool} {Γ : Env} (h : f Γ = .ok true) : bOr f g Γ = .ok true := by unfold bOr; rw [h]; rfl
theorem bAnd_no {f g : Env → Rs Bool} {Γ : Env} (h : f Γ = .ok false) : bAnd f g Γ = .ok false := by unfold bAnd; rw [h]; rfl
theorem bAnd_yes {f g : Env → Rs Bool} {Γ : Env} (h : f Γ = .ok true) : bAnd f g Γ = g Γ := by unfold bAnd; rw [h]; rfl
theorem asInts_map : ∀ ns : List Int, asInts (ns.map .int) = some ns
  | [] => rfl
  | n :: ns => by
    show (asInts (ns.map .int)).map (n :: ·) = _
    rw [asInts_map ns]; rfl
theorem asBls_map : ∀ bs : List Bool, asBls (bs.map .bl) = some bs
  | [] => rfl
  | b :: bs => by
    show (asBls (bs.map .bl)).map (b :: ·) = _
    rw [asBls_map bs]; rfl
theorem sum_ints (ns : List Int) : pSum [.lst (ns.map .int)] = .ok (.int ns.sum) := by
  show (match asInts (ns.map .int) with
    | some ns => (Rs.ok (PV.int ns.sum) : Rs PV)
    | none => .bad) = _
  rw [asInts_map]
theorem all_bls (bs : List Bool) : pAll [.lst (bs.map .bl)] = .ok (.bl (bs.all _root_.id)) := by
  show (match asBls (bs.map .bl) with
    | some ns => (Rs.ok (PV.bl (ns.all _root_.id)) : Rs PV)
    | none => .bad) = _
  rw [asBls_map]
theorem any_bls (bs : List Bool) : pAny [.lst (bs.map .bl)] = .ok (.bl (bs.any _root_.id)) := by
  show (match asBls (bs.map .bl) with
    | some ns => (Rs.ok (PV.bl (ns.any _root_.id)) : Rs PV)
    | none => .bad) = _
  rw [asBls_map]
/-! ### statements -/
theorem then_next {f g : Env → Out} {Γ Γ' : Env} (h : f Γ = .next Γ') : thenB f g Γ = g Γ' := by unfold thenB; rw [h]
theorem then_ret {f g : Env → Out} {Γ Γ' : Env} {p : PV} (h : f Γ = .ret p Γ') : thenB f g Γ = .ret p Γ' := by unfold thenB; rw [h]
theorem then_cont {f g : Env → Out} {Γ Γ' : Env} (h : f Γ = .cont Γ') : thenB f g Γ = .cont Γ' := by unfold thenB; rw [h]
theorem if_ok {c : Env → Rs Bool} {f g : Env → Out} {Γ : Env} {b : Bool} (h : c Γ = .ok b) : ifB c f g Γ = if b = true then f Γ else g Γ := by unfold ifB; rw [h, outE_ok]
theorem if_yes {c : Env → Rs Bool} {f g : Env → Out} {Γ : Env} (h : c Γ = .ok true) : ifB c f g Γ = f Γ := by rw [if_ok h, if_pos rfl]
theorem if_no {c : Env → Rs Bool} {f g : Env → Out} {Γ : Env} (h : c Γ = .ok false) : ifB c f g Γ = g Γ := by rw [if_ok h, if_neg (by decide)]
theorem set_ok {i : Nat} {f : Env → Rs PV} {Γ : Env} {p : PV} (h : f Γ = .ok p) : dSet i f Γ = .next (Γ.set i (some p)) := by unfold dSet; rw [h, outE_ok]
theorem ret_ok {f : Env → Rs PV} {Γ : Env} {p : PV} (h : f Γ = .ok p) : dRet f Γ = .ret p Γ := by unfold dRet; rw [h, outE_ok]
theorem for_ok {fi : Env → Rs (List PV)} {g : PV → Env → Option Env} {fb : Env → Out} {Γ : Env} {ps : List PV} (h : fi Γ = .ok ps) : dFor fi g fb Γ = forL g fb ps Γ := by unfold dFor; rw [h, outE_ok]
theorem unp_ok {g : PV → Env → Option Env} {f : Env → Rs PV} {Γ Γ' : Env} {p : PV} (h : f Γ = .ok p) (h2 : g p Γ = some Γ') : dUnp g f Γ = .next Γ' := by unfold dUnp; rw [h, outE_ok, h2]
theorem rgP_succ (lo : Int) (n : Nat) : rgP lo (n + 1) = .int lo :: rgP (lo + 1) n := by
  unfold rgP
  rw [List.range_succ_eq_map, List.map_cons, List.map_map]
  congr 1
  · show PV.int (lo + ((0 : Nat) : Int)) = _
    rw [Int.natCast_zero, Int.add_zero]
  · refine List.map_congr_left fun i _ => ?_
    show PV.int (lo + ((i + 1 : Nat) : Int)) = PV.int (lo + 1 + (i : Int))
    congr 1
    omega
/-! ### loops -/
theorem forL_nil {g : PV → Env → Option Env} {fb : Env → Out} {Γ : Env} : forL g fb [] Γ = .next Γ := rfl
theorem forL_next {g : PV → Env → Option Env} {fb : Env → Out} {x : PV} {xs : List PV} {Γ Γ1 Γ2 : Env} (h1 : g x Γ = some Γ1) (h2 : fb Γ1 = .next Γ2 ∨ fb Γ1 = .cont Γ2) : forL g fb (x :: xs) Γ = forL g fb xs Γ2 := by
  conv => lhs; unfold forL
  rw [h1]
  dsimp only
  rcases h2 with h2 | h2 <;> rw [h2]
theorem forL_ret {g : PV → Env → Option Env} {fb : Env → Out} {x : PV} {xs : List PV} {Γ Γ1 Γ2 : Env} {p : PV} (h1 : g x Γ = some Γ1) (h2 : fb Γ1 = .ret p Γ2) : forL g fb (x :: xs) Γ = .ret p Γ2 := by
  conv => lhs; unfold forL
  rw [h1]
  dsimp only
  rw [h2]
theorem whileL_go {c : Env → Rs Bool} {fb : Env → Out} {n : Nat} {Γ Γ2 : Env} (h1 : c Γ = .ok true) (h2 : fb Γ = .next Γ2 ∨ fb Γ = .cont Γ2) : whileL c fb (n + 1) Γ = whileL c fb n Γ2 := by
  conv => lhs; unfold whileL
  rw [h1, outE_ok, if_pos rfl]
  rcases h2 with h2 | h2 <;> rw [h2]
theorem whileL_end {c : Env → Rs Bool} {fb : Env → Out} {n : Nat} {Γ : Env} (h1 : c Γ = .ok false) : whileL c fb (n + 1) Γ = .next Γ := by
  conv => lhs; unfold whileL
  rw [h1, outE_ok, if_neg (by decide)]
/-- a comprehension without a test, its elements told one by one -/
theorem lcL_map {α : Type} {vs : List Nat} {g : PV → Env → Option Env} {fe : Env → Rs PV} {Γ : Env} (ix : α → PV) (el : α → PV) : ∀ (xs : List α) (acc : List PV), (∀ x ∈ xs, ∃ Γ2, g (ix x) (wipeE vs Γ) = some Γ2 ∧ fe Γ2 = .ok (el x)) → acc.length + xs.length ≤ 100000 → lcL vs g yesB fe Γ (xs.map ix) acc = .ok (.lst (acc ++ xs.map el))
  | [], acc, _, _ => by simp [lcL]
  | x :: xs, acc, h, hl => by
    obtain ⟨Γ2, h1, h2⟩ := h x List.mem_cons_self
    rw [List.length_cons] at hl
    rw [List.map_cons]
    unfold lcL
    rw [h1]
    dsimp only
    show (Rs.ok true).okB _ = _
    rw [okB_ok, if_pos rfl, h2, okB_ok, if_pos (by omega), lcL_map ix el xs (acc ++ [el x]) (fun y hy => h y (List.mem_cons_of_mem _ hy)) (by simp; omega)]
    simp
/-- the same with a test -/
theorem lcL_filter {α : Type} {vs : List Nat} {g : PV → Env → Option Env} {fc : Env → Rs Bool} {fe : Env → Rs PV} {Γ : Env} (ix : α → PV) (t : α → Bool) (el : α → PV) : ∀ (xs : List α) (acc : List PV), (∀ x ∈ xs, ∃ Γ2, g (ix x) (wipeE vs Γ) = some Γ2 ∧ fc Γ2 = .ok (t x) ∧ (t x = true → fe Γ2 = .ok (el x))) → acc.length + xs.length ≤ 100000 → lcL vs g fc fe Γ (xs.map ix) acc = .ok (.lst (acc ++ (xs.filter t).map el))
  | [], acc, _, _ => by simp [lcL]
  | x :: xs, acc, h, hl => by
    obtain ⟨Γ2, h1, h2, h3⟩ := h x List.mem_cons_self
    rw [List.length_cons] at hl
    rw [List.map_cons]
    unfold lcL
    rw [h1]
    dsimp only
    rw [h2, okB_ok]
    cases ht : t x with
    | true =>
      rw [if_pos rfl, h3 ht, okB_ok, if_pos (by omega), lcL_filter ix t el xs (acc ++ [el x]) (fun y hy => h y (List.mem_cons_of_mem _ hy)) (by simp; omega)]
      simp [ht]
    | false =>
      rw [if_neg (by decide), lcL_filter ix t el xs acc (fun y hy => h y (List.mem_cons_of_mem _ hy)) (by omega)]
      simp [ht]
end B
end Lh.P
set_option linter.all false
set_option maxRecDepth 100000
/-! Amounts that coins can pay: plain mathematics. -/
namespace Lh.C
inductive Pay (cs : List Int) : Int → Prop
  | zero : Pay cs 0
  | add {n c : Int} : Pay cs n → c ∈ cs → Pay cs (n + c)
section
variable {cs : List Int}
theorem Pay.nonneg (hp : ∀ c ∈ cs, 0 < c) {n : Int} (h : Pay cs n) : 0 ≤ n := by
  induction h with
  | zero => exact Int.le_refl _
  | add _ hc ih => have := hp _ hc; omega
theorem Pay.sum {a b : Int} (ha : Pay cs a) (hb : Pay cs b) : Pay cs (a + b) := by
  induction hb with
  | zero => rw [Int.add_zero]; exact ha
  | add _ hc ih => rw [← Int.add_assoc]; exact .add ih hc
theorem Pay.mul {a : Int} (ha : Pay cs a) : ∀ k : Nat, Pay cs (k * a)
  | 0 => by rw [Int.natCast_zero, Int.zero_mul]; exact .zero
  | k + 1 => by
    rw [Int.natCast_succ, Int.add_mul, Int.one_mul]
    exact (Pay.mul ha k).sum ha
theorem Pay.coin {c : Int} (hc : c ∈ cs) : Pay cs c := by
  have := Pay.add (Pay.zero (cs := cs)) hc
  rwa [Int.zero_add] at this
theorem Pay.mulI {a : Int} (ha : Pay cs a) {k : Int} (hk : 0 ≤ k) : Pay cs (k * a) := by
  obtain ⟨n, rfl⟩ := Int.eq_ofNat_of_zero_le hk
  exact ha.mul n
theorem Pay.back {n : Int} (h : Pay cs n) : n = 0 ∨ ∃ c ∈ cs, Pay cs (n - c) := by
  cases h with
  | zero => exact .inl rfl
  | add h hc =>
    rename_i m c
    exact .inr ⟨c, hc, by rw [Int.add_sub_cancel]; exact h⟩
theorem Pay.dvd {g : Int} (hg : ∀ c ∈ cs, g ∣ c) {n : Int} (h : Pay cs n) : g ∣ n := by
  induction h with
  | zero => exact Int.dvd_zero g
  | add _ hc ih => exact Int.dvd_add ih (hg _ hc)
theorem Pay.ge {m : Int} (hp : ∀ c ∈ cs, 0 < c) (hm : ∀ c ∈ cs, m ≤ c) {n : Int} (h : Pay cs n) (hn : n ≠ 0) : m ≤ n := by
  cases h with
  | zero => exact absurd rfl hn
  | add h hc =>
    have := h.nonneg hp
    have := hm _ hc
    omega
/-! ### the least amounts by their rests -/
structure Least (cs : List Int) (m : Int) (am : Int → Option Int) : Prop where
  mem : m ∈ cs
  pos : ∀ c ∈ cs, 0 < c
  key : ∀ r v, am r = some v → v % m = r ∧ Pay cs v
  zero : am 0 = some 0
  closed : ∀ r v c, am r = some v → c ∈ cs → ∃ w, am ((v + c) % m) = some w ∧ w ≤ v + c
variable {m : Int} {am : Int → Option Int}
theorem Least.m_pos (L : Least cs m am) : 0 < m := L.pos _ L.mem
theorem Least.below (L : Least cs m am) {n : Int} (h : Pay cs n) : ∃ v, am (n % m) = some v ∧ v ≤ n := by
  induction h with
  | zero => exact ⟨0, by rw [Int.zero_emod]; exact L.zero, Int.le_refl _⟩
  | @add n c _ hc ih =>
    obtain ⟨v, h1, h2⟩ := ih
    obtain ⟨w, h3, h4⟩ := L.closed _ v c h1 hc
    refine ⟨w, ?_, by omega⟩
    have e : (v + c) % m = (n + c) % m := by
      rw [Int.add_emod, (L.key _ _ h1).1, ← Int.add_emod]
    rw [← e]; exact h3
theorem Least.pay_iff (L : Least cs m am) {n : Int} : Pay cs n ↔ ∃ v, am (n % m) = some v ∧ v ≤ n := by
  refine ⟨L.below, ?_⟩
  rintro ⟨v, h1, h2⟩
  obtain ⟨k1, k2⟩ := L.key _ _ h1
  have hm := L.m_pos
  have e : (n - v) % m = 0 := by
    rw [Int.sub_emod, k1, Int.sub_self, Int.zero_emod]
  have d : m ∣ n - v := Int.dvd_of_emod_eq_zero e
  obtain ⟨k, hk⟩ := d
  have k0 : 0 ≤ k := by
    rcases Int.lt_or_le k 0 with z | z
    · have : m * k ≤ m * (-1) := Int.mul_le_mul_of_nonneg_left (by omega) (by omega)
      omega
    · exact z
  have := k2.sum ((Pay.coin L.mem).mulI k0)
  rw [Int.mul_comm k m, ← hk] at this
  have e : v + (n - v) = n := by omega
  rwa [e] at this
/-! ### all multiples of the common divisor have a rest that can be paid -/
/-- x's rest is that of something payable -/
def Rest (cs : List Int) (m : Int) (x : Int) : Prop := ∃ p, Pay cs p ∧ m ∣ p - x
theorem Rest.add {x y : Int} (hx : Rest cs m x) (hy : Rest cs m y) : Rest cs m (x + y) := by
  obtain ⟨p, h1, h2⟩ := hx
  obtain ⟨q, h3, h4⟩ := hy
  refine ⟨p + q, h1.sum h3, ?_⟩
  have : p + q - (x + y) = (p - x) + (q - y) := by omega
  rw [this]
  exact Int.dvd_add h2 h4
theorem Rest.mulN {x : Int} (hx : Rest cs m x) : ∀ k : Nat, Rest cs m (k * x)
  | 0 => ⟨0, .zero, by rw [Int.natCast_zero, Int.zero_mul]; exact Int.dvd_zero m⟩
  | k + 1 => by
    rw [Int.natCast_succ, Int.add_mul, Int.one_mul]
    exact (Rest.mulN hx k).add hx
theorem Rest.neg (hm : 0 < m) {x : Int} (hx : Rest cs m x) : Rest cs m (-x) := by
  have h := hx.mulN (m.toNat - 1)
  obtain ⟨p, h1, h2⟩ := h
  refine ⟨p, h1, ?_⟩
  have e : ((m.toNat - 1 : Nat) : Int) = m - 1 := by omega
  rw [e] at h2
  have : p - -x = (p - (m - 1) * x) + m * x := by
    rw [Int.sub_mul, Int.one_mul]; omega
  rw [this]
  exact Int.dvd_add h2 (Int.dvd_mul_right m x)
theorem Rest.mulI (hm : 0 < m) {x : Int} (hx : Rest cs m x) (k : Int) : Rest cs m (k * x) := by
  rcases Int.lt_or_le k 0 with z | z
  · have := (hx.mulN (-k).toNat).neg hm
    have e : (((-k).toNat : Nat) : Int) = -k := by omega
    rw [e, Int.neg_mul, Int.neg_neg] at this
    exact this
  · have := hx.mulN k.toNat
    have e : ((k.toNat : Nat) : Int) = k := by omega
    rwa [e] at this
theorem Rest.gcd (hm : 0 < m) (a b : Nat) (ha : Rest cs m a) (hb : Rest cs m b) : Rest cs m (Nat.gcd a b : Nat) := by
  induction a, b using Nat.gcd.induction with
  | H0 n => rw [Nat.gcd_zero_left]; exact hb
  | H1 a b h ih =>
    rw [Nat.gcd_rec]
    refine ih ?_ ha
    have e : ((b % a : Nat) : Int) = b + (-((b / a : Nat) : Int)) * a := by
      have := Nat.div_add_mod b a
      have h2 : (b : Int) = a * ((b / a : Nat) : Int) + ((b % a : Nat) : Int) := by
        rw [← Int.natCast_mul, ← Int.natCast_add, this]
      rw [Int.neg_mul, Int.mul_comm ((b / a : Nat) : Int) a]
      omega
    rw [e]
    exact hb.add (ha.mulI hm _)
/-- the common divisor as the program reckons it -/
def gcdL (cs : List Int) : Int := cs.foldl (fun d c => ((Nat.gcd d.natAbs c.natAbs : Nat) : Int)) 0
theorem gcd_fold_nonneg : ∀ (cs : List Int) (d : Int), 0 ≤ d → 0 ≤ cs.foldl (fun d c => ((Nat.gcd d.natAbs c.natAbs : Nat) : Int)) d
  | [], _, h => h
  | c :: cs, d, _ => gcd_fold_nonneg cs _ (Int.natCast_nonneg _)
theorem gcd_fold_dvd : ∀ (cs : List Int) (d : Int), 0 ≤ d → (cs.foldl (fun d c => ((Nat.gcd d.natAbs c.natAbs : Nat) : Int)) d ∣ d) ∧ ∀ c ∈ cs, cs.foldl (fun d c => ((Nat.gcd d.natAbs c.natAbs : Nat) : Int)) d ∣ c
  | [], d, _ => ⟨Int.dvd_refl d, fun _ h => by cases h⟩
  | c :: cs, d, hd => by
    obtain ⟨h1, h2⟩ := gcd_fold_dvd cs (((Nat.gcd d.natAbs c.natAbs : Nat) : Int)) (Int.natCast_nonneg _)
    have k1 : ((Nat.gcd d.natAbs c.natAbs : Nat) : Int) ∣ d := Int.dvd_natAbs.mp (Int.natCast_dvd_natCast.mpr (Nat.gcd_dvd_left _ _))
    have k2 : ((Nat.gcd d.natAbs c.natAbs : Nat) : Int) ∣ c := Int.dvd_natAbs.mp (Int.natCast_dvd_natCast.mpr (Nat.gcd_dvd_right _ _))
    refine ⟨Int.dvd_trans h1 k1, fun x hx => ?_⟩
    rcases List.mem_cons.mp hx with rfl | hx
    · exact Int.dvd_trans h1 k2
    · exact h2 x hx
theorem gcd_fold_max {e : Int} : ∀ (cs : List Int) (d : Int), e ∣ d → (∀ c ∈ cs, e ∣ c) → e ∣ cs.foldl (fun d c => ((Nat.gcd d.natAbs c.natAbs : Nat) : Int)) d
  | [], _, h, _ => h
  | c :: cs, d, h, hs => by
    refine gcd_fold_max cs _ ?_ fun x hx => hs x (List.mem_cons_of_mem _ hx)
    have h1 := Int.natAbs_dvd_natAbs.mpr h
    have h2 := Int.natAbs_dvd_natAbs.mpr (hs c List.mem_cons_self)
    have := Nat.dvd_gcd h1 h2
    have h3 : ((e.natAbs : Nat) : Int) ∣ ((Nat.gcd d.natAbs c.natAbs : Nat) : Int) := Int.natCast_dvd_natCast.mpr this
    exact Int.natAbs_dvd.mp h3
theorem gcd_fold_rest (hm : 0 < m) : ∀ (xs : List Int) (d : Int), 0 ≤ d → Rest cs m d → (∀ c ∈ xs, 0 < c ∧ Rest cs m c) → Rest cs m (xs.foldl (fun d c => ((Nat.gcd d.natAbs c.natAbs : Nat) : Int)) d)
  | [], _, _, h, _ => h
  | c :: xs, d, hd, h, hs => by
    refine gcd_fold_rest hm xs _ (Int.natCast_nonneg _) ?_ fun x hx => hs x (List.mem_cons_of_mem _ hx)
    have hc := hs c List.mem_cons_self
    refine Rest.gcd hm _ _ ?_ ?_
    · have e : ((d.natAbs : Nat) : Int) = d := by omega
      rw [e]; exact h
    · have e : ((c.natAbs : Nat) : Int) = c := by omega
      rw [e]; exact hc.2
theorem gcdL_dvd : ∀ c ∈ cs, gcdL cs ∣ c := (gcd_fold_dvd cs 0 (Int.le_refl _)).2
theorem gcdL_nonneg : 0 ≤ gcdL cs := gcd_fold_nonneg cs 0 (Int.le_refl _)
theorem gcdL_max {e : Int} (h : ∀ c ∈ cs, e ∣ c) : e ∣ gcdL cs := gcd_fold_max cs 0 (Int.dvd_zero e) h
theorem gcdL_pos (hp : ∀ c ∈ cs, 0 < c) (hm : m ∈ cs) : 0 < gcdL cs := by
  have h := gcdL_nonneg (cs := cs)
  rcases Int.lt_or_eq_of_le h with z | z
  · exact z
  · have := gcdL_dvd (cs := cs) m hm
    rw [← z] at this
    have e := Int.zero_dvd.mp this
    have := hp m hm
    omega
theorem rest_gcd (L : Least cs m am) : Rest cs m (gcdL cs) := gcd_fold_rest L.m_pos cs 0 (Int.le_refl _) ⟨0, .zero, by rw [Int.sub_self]; exact Int.dvd_zero m⟩ fun c hc => ⟨L.pos c hc, c, .coin hc, by rw [Int.sub_self]; exact Int.dvd_zero m⟩
/-- every rest that the divisor allows has a least amount -/
theorem Least.full (L : Least cs m am) {n : Int} (h : gcdL cs ∣ n) : ∃ v, am (n % m) = some v := by
  obtain ⟨k, rfl⟩ := h
  obtain ⟨p, h1, h2⟩ := (rest_gcd L).mulI L.m_pos k
  obtain ⟨v, h3, _⟩ := L.below h1
  refine ⟨v, ?_⟩
  have : p % m = (gcdL cs * k) % m := by
    rw [Int.mul_comm k] at h2
    have := Int.emod_eq_zero_of_dvd h2
    exact Int.emod_eq_emod_iff_emod_sub_eq_zero.mpr this
  rw [← this]; exact h3
/-- s is the greatest of the least amounts -/
structure Top (am : Int → Option Int) (s : Int) : Prop where
  there : ∃ r, am r = some s
  top : ∀ r v, am r = some v → v ≤ s
theorem Least.above (L : Least cs m am) {s n : Int} (T : Top am s) (hd : gcdL cs ∣ n) (h : s - m < n) : Pay cs n := by
  obtain ⟨v, hv⟩ := L.full hd
  refine L.pay_iff.mpr ⟨v, hv, ?_⟩
  have h1 := T.top _ _ hv
  have h2 := (L.key _ _ hv).1
  have hm := L.m_pos
  have e : (n - v) % m = 0 := by
    rw [Int.sub_emod, h2, Int.sub_self, Int.zero_emod]
  obtain ⟨k, hk⟩ := Int.dvd_of_emod_eq_zero e
  have k0 : 0 ≤ k := by
    rcases Int.lt_or_le k 0 with z | z
    · have : m * k ≤ m * (-1) := Int.mul_le_mul_of_nonneg_left (by omega) (by omega)
      omega
    · exact z
  have : 0 ≤ m * k := Int.mul_nonneg (by omega) k0
  omega
theorem Least.not_at (L : Least cs m am) {s : Int} (T : Top am s) : ¬ Pay cs (s - m) := fun h => by
  obtain ⟨r, hr⟩ := T.there
  obtain ⟨v, h1, h2⟩ := L.below h
  have e : (s - m) % m = s % m := Int.sub_emod_right s m
  rw [e, (L.key _ _ hr).1, hr] at h1
  cases h1
  have := L.m_pos
  omega
/-- s is below m only if m is the divisor itself, and s is 0 -/
theorem Least.small (L : Least cs m am) (hmin : ∀ c ∈ cs, m ≤ c) {s : Int} (T : Top am s) (h : s < m) : s = 0 ∧ gcdL cs = m := by
  have hg := gcdL_pos L.pos L.mem
  have p := L.above T (n := gcdL cs) (Int.dvd_refl _) (by omega)
  have h1 := p.ge L.pos hmin (by omega)
  have h2 := Int.le_of_dvd L.m_pos (gcdL_dvd m L.mem)
  have e : gcdL cs = m := by omega
  refine ⟨?_, e⟩
  obtain ⟨r, hr⟩ := T.there
  have d := (L.key _ _ hr).2.dvd (g := m) (by rw [← e]; exact gcdL_dvd)
  have n0 := (L.key _ _ hr).2.nonneg L.pos
  rcases Int.lt_or_le 0 s with z | z
  · have := Int.le_of_dvd z d
    omega
  · omega
end
end Lh.C
set_option linter.all false
set_option maxRecDepth 100000
/-! The walk that finds the least amounts: its state and what holds of it. -/
namespace Lh.C
abbrev Tab := List (Int × Int)
def look (l : Tab) (r : Int) : Option Int := (l.find? fun q => decide (q.1 = r)).map (·.2)
def put (l : Tab) (r v : Int) : Tab := if (l.any fun q => decide (q.1 = r)) = true then l.map (fun q => if q.1 = r then (q.1, v) else q) else l ++ [(r, v)]
theorem look_cons (p : Int × Int) (l : Tab) (r : Int) : look (p :: l) r = if p.1 = r then some p.2 else look l r := by
  unfold look
  by_cases h : p.1 = r
  · rw [if_pos h, List.find?_cons_of_pos (by simpa using h)]; rfl
  · rw [if_neg h, List.find?_cons_of_neg (by simpa using h)]
theorem look_any (l : Tab) (r : Int) : (l.any fun q => decide (q.1 = r)) = (look l r).isSome := by
  induction l with
  | nil => rfl
  | cons p l ih =>
    rw [List.any_cons, look_cons, ih]
    by_cases h : p.1 = r
    · simp [h]
    · simp [h]
theorem look_map (l : Tab) (r v x : Int) : look (l.map fun q => if q.1 = r then (q.1, v) else q) x = if x = r then (look l r).map (fun _ => v) else look l x := by
  induction l with
  | nil => simp [look]
  | cons p l ih =>
    rw [List.map_cons, look_cons, look_cons, look_cons, ih]
    by_cases h : p.1 = r
    · rw [if_pos h]
      by_cases h2 : p.1 = x
      · have : x = r := by omega
        simp [h2, this]
      · have : ¬ x = r := by omega
        have : ¬ r = x := by omega
        simp [h2, this, h, *]
    · rw [if_neg h]
      by_cases h2 : p.1 = x
      · have : ¬ x = r := by omega
        simp [h2, this]
      · by_cases h3 : x = r
        · simp [h2, h3, h]
        · simp [h2, h3]
theorem look_app (l : Tab) (r v x : Int) (h : look l r = none) : look (l ++ [(r, v)]) x = if x = r then some v else look l x := by
  induction l with
  | nil => rw [List.nil_append, look_cons]; by_cases h : r = x
           · simp [h]
           · have : ¬ x = r := by omega
             simp [h, this]
  | cons p l ih =>
    rw [look_cons] at h
    split at h
    · cases h
    · rename_i hp
      rw [List.cons_append, look_cons, look_cons, ih h]
      by_cases h2 : p.1 = x
      · have : ¬ x = r := by omega
        simp [h2, this]
      · simp [h2]
theorem look_put (l : Tab) (r v x : Int) : look (put l r v) x = if x = r then some v else look l x := by
  unfold put
  rw [look_any]
  cases h : look l r with
  | none => rw [if_neg (by simp)]; exact look_app l r v x h
  | some u =>
    rw [if_pos (by simp), look_map, h]
    rfl
theorem put_len (l : Tab) (r v : Int) : (put l r v).length ≤ l.length + 1 := by
  unfold put
  split
  · rw [List.length_map]; omega
  · rw [List.length_append]; simp
theorem put_wf {l : Tab} (h : ∀ p ∈ l, look l p.1 = some p.2) (r v : Int) : ∀ p ∈ put l r v, look (put l r v) p.1 = some p.2 := by
  intro p hp
  rw [look_put]
  unfold put at hp
  split at hp
  · obtain ⟨u, hu, e⟩ := List.mem_map.mp hp
    by_cases z : u.1 = r
    · rw [if_pos z] at e
      subst e
      rw [if_pos z]
    · rw [if_neg z] at e
      subst e
      rw [if_neg z]; exact h _ hu
  · rename_i ha
    rcases List.mem_append.mp hp with hu | hu
    · by_cases z : p.1 = r
      · exact absurd (List.any_eq_true.mpr ⟨p, hu, by simpa using z⟩) ha
      · rw [if_neg z]; exact h _ hu
    · have e : p = (r, v) := by simpa using hu
      subst e
      rw [if_pos rfl]
/-! ### sums -/
def sumTo (f : Nat → Int) : Nat → Int
  | 0 => 0
  | n + 1 => sumTo f n + f n
theorem sumTo_le {f h : Nat → Int} : ∀ {n : Nat}, (∀ j, j < n → f j ≤ h j) → sumTo f n ≤ sumTo h n
  | 0, _ => Int.le_refl _
  | n + 1, k => by
    have := sumTo_le (n := n) fun j hj => k j (by omega)
    have := k n (by omega)
    show sumTo f n + f n ≤ sumTo h n + h n
    omega
theorem sumTo_const (c : Int) : ∀ n : Nat, sumTo (fun _ => c) n = n * c
  | 0 => by simp [sumTo]
  | n + 1 => by
    show sumTo _ n + c = _
    rw [sumTo_const c n, Int.natCast_succ, Int.add_mul, Int.one_mul]
theorem sumTo_congr {f h : Nat → Int} : ∀ {n : Nat}, (∀ j, j < n → f j = h j) → sumTo f n = sumTo h n
  | 0, _ => rfl
  | n + 1, k => by
    show sumTo f n + f n = sumTo h n + h n
    rw [sumTo_congr (n := n) fun j hj => k j (by omega), k n (by omega)]
/-- one place changed -/
theorem sumTo_at {f h : Nat → Int} {i : Nat} : ∀ {n : Nat}, i < n → (∀ j, j ≠ i → f j = h j) → sumTo h n = sumTo f n - f i + h i
  | 0, hi, _ => by omega
  | n + 1, hi, k => by
    show sumTo h n + h n = sumTo f n + f n - f i + h i
    by_cases e : i = n
    · subst e
      have := sumTo_congr (f := f) (h := h) (n := i) fun j hj => k j (by omega)
      omega
    · have := sumTo_at (n := n) (by omega) k
      have := k n (fun z => e z.symm)
      omega
/-! ### the state -/
/-- what is fixed: the coins, the least of them, the divisor, how many rests there are at most, the greatest coin -/
structure Fix (cs : List Int) (m g M : Int) (n : Nat) : Prop where
  pos : ∀ c ∈ cs, 0 < c
  mem : m ∈ cs
  gp : 0 < g
  gd : ∀ c ∈ cs, g ∣ c
  gm : g * n = m
  le : ∀ c ∈ cs, c ≤ M
section
variable {cs : List Int} {m g M : Int} {n : Nat}
def cnt (g : Int) (n : Nat) (l : Tab) : Int := sumTo (fun j => if (look l (g * j)).isSome then 1 else 0) n
def pot (g M : Int) (n : Nat) (l : Tab) : Int := sumTo (fun j => (look l (g * j)).getD (n * M)) n
/-- d: rests to the place of the last coin -/
structure St (cs : List Int) (m g M : Int) (n : Nat) (l d : Tab) (q : List Int) (C : Int) : Prop where
  key : ∀ r v, look l r = some v → v % m = r ∧ Pay cs v
  zero : look l 0 = some 0
  que : ∀ x ∈ q, Pay cs x ∧ ∃ w, look l (x % m) = some w ∧ w ≤ x
  back : ∀ r i, look d r = some i → ∃ c u v, 0 ≤ i ∧ cs[i.toNat]? = some c ∧ look l r = some v ∧ look l ((r - c) % m) = some u ∧ u + c ≤ v
  dom : ∀ r v, look l r = some v → r ≠ 0 → ∃ i, look d r = some i
  dom0 : look d 0 = none
  bnd : ∀ r v, look l r = some v → v ≤ (cnt g n l - 1) * M
  lq : q.length + pot g M n l ≤ C
  ll : l.length + pot g M n l ≤ C
  ld : d.length + pot g M n l ≤ C
  wf : ∀ p ∈ l, look l p.1 = some p.2
def Closed (cs : List Int) (m : Int) (l : Tab) (v : Int) : Prop := ∀ c ∈ cs, ∃ w, look l ((v + c) % m) = some w ∧ w ≤ v + c
variable {l d : Tab} {q : List Int} {C : Int}
theorem Fix.m_pos (F : Fix cs m g M n) : 0 < m := F.pos _ F.mem
theorem Fix.M_pos (F : Fix cs m g M n) : 0 < M := by have := F.le _ F.mem; have := F.m_pos; omega
theorem St.val_nonneg (F : Fix cs m g M n) (S : St cs m g M n l d q C) {r v : Int} (h : look l r = some v) : 0 ≤ v := (S.key r v h).2.nonneg F.pos
/-- a payable amount's rest, as a place -/
theorem Fix.place (F : Fix cs m g M n) {x : Int} (h : Pay cs x) : ∃ j : Nat, j < n ∧ x % m = g * j := by
  have d1 : g ∣ x := h.dvd F.gd
  have d2 : g ∣ m := F.gd _ F.mem
  have d3 : g ∣ x % m := by rw [Int.emod_def]; exact Int.dvd_sub d1 (Int.dvd_trans d2 (Int.dvd_mul_right m _))
  obtain ⟨k, hk⟩ := d3
  have h0 := Int.emod_nonneg x (show m ≠ 0 by have := F.m_pos; omega)
  have h1 := Int.emod_lt_of_pos x F.m_pos
  have gp := F.gp
  have k0 : 0 ≤ k := by
    rcases Int.lt_or_le k 0 with z | z
    · have : g * k ≤ g * (-1) := Int.mul_le_mul_of_nonneg_left (by omega) (by omega)
      omega
    · exact z
  have k1 : k < n := by
    rcases Int.lt_or_le k n with z | z
    · exact z
    · have : g * n ≤ g * k := Int.mul_le_mul_of_nonneg_left z (by omega)
      have := F.gm
      omega
  exact ⟨k.toNat, by omega, by rw [hk]; congr 1; omega⟩
theorem cnt_le (l : Tab) : cnt g n l ≤ n := by
  unfold cnt
  have := sumTo_le (f := fun j => if (look l (g * j)).isSome then 1 else 0) (h := fun _ => 1) (n := n) fun j _ => by split <;> omega
  rw [sumTo_const, Int.mul_one] at this
  exact this
theorem pot_nonneg (F : Fix cs m g M n) (hv : ∀ r v, look l r = some v → 0 ≤ v) : 0 ≤ pot g M n l := by
  have := sumTo_le (f := fun _ => 0) (h := fun j => (look l (g * j)).getD (n * M)) (n := n) fun j _ => by
    cases h : look l (g * j) with
    | none =>
      show (0 : Int) ≤ n * M
      exact Int.mul_nonneg (Int.natCast_nonneg _) (by have := F.M_pos; omega)
    | some v => exact hv _ _ h
  rw [sumTo_const, Int.mul_zero] at this
  exact this
theorem gj_inj (F : Fix cs m g M n) {i j : Nat} (h : g * (i : Int) = g * j) : i = j := by
  have := Int.eq_of_mul_eq_mul_left (by have := F.gp; omega) h
  omega
/-- a step: the amount t, less than what stood at its rest -/
theorem St.step (F : Fix cs m g M n) (S : St cs m g M n l d q C) {a c t : Int} {i : Nat} {q' : List Int} (hc : cs[i]? = some c) (ha : look l (a % m) = some a) (ht : t = a + c) (hb : ∀ v, look l (t % m) = some v → t < v) (hq : q'.Perm (t :: q)) :
    St cs m g M n (put l (t % m) t) (put d (t % m) i) q' C ∧ look (put l (t % m) t) (a % m) = some a ∧ pot g M n (put l (t % m) t) + 1 ≤ pot g M n l ∧ (∀ v, Closed cs m l v → Closed cs m (put l (t % m) t) v) ∧ (∀ r v, look l r = some v → look (put l (t % m) t) r = some v ∨ (r = t % m)) := by
  have hcm : c ∈ cs := List.mem_of_getElem? hc
  have hcp := F.pos _ hcm
  have pa := (S.key _ _ ha).2
  have pt : Pay cs t := by rw [ht]; exact .add pa hcm
  have hne : t % m ≠ a % m := fun e => by
    have := hb a (by rw [e]; exact ha)
    omega
  have h0 : t % m ≠ 0 := fun e => by
    have := hb 0 (by rw [e]; exact S.zero)
    have := pt.nonneg F.pos
    omega
  have hM := F.M_pos
  have hcM := F.le _ hcm
  obtain ⟨j0, hj, ej⟩ := F.place pt
  have off : ∀ j : Nat, j ≠ j0 → look (put l (t % m) t) (g * j) = look l (g * j) := fun j hne => by
    rw [look_put]
    exact if_neg fun e => hne (gj_inj F (by rw [e, ej]))
  have on : look (put l (t % m) t) (g * j0) = some t := by
    rw [look_put]
    exact if_pos ej.symm
  have cnt' : cnt g n (put l (t % m) t) = cnt g n l - (if (look l (t % m)).isSome then 1 else 0) + 1 := by
    unfold cnt
    have := sumTo_at (f := fun j => if (look l (g * j)).isSome then (1 : Int) else 0) (h := fun j => if (look (put l (t % m) t) (g * j)).isSome then (1 : Int) else 0) (i := j0) (n := n) hj fun j hne => by rw [off j hne]
    rw [this, on, ← ej]
    rfl
  have cle : cnt g n l ≤ cnt g n (put l (t % m) t) := by rw [cnt']; split <;> omega
  have abd := S.bnd _ _ ha
  have tb : t ≤ (cnt g n (put l (t % m) t) - 1) * M := by
    cases h : look l (t % m) with
    | none =>
      rw [cnt', h]
      show t ≤ (cnt g n l - 0 + 1 - 1) * M
      have : (cnt g n l - 0 + 1 - 1) * M = (cnt g n l - 1) * M + M := by
        have e : cnt g n l - 0 + 1 - 1 = (cnt g n l - 1) + 1 := by omega
        rw [e, Int.add_mul, Int.one_mul]
      omega
    | some v =>
      have := S.bnd _ _ h
      have := hb v h
      rw [cnt', h]
      show t ≤ (cnt g n l - 1 + 1 - 1) * M
      have e : cnt g n l - 1 + 1 - 1 = cnt g n l - 1 := by omega
      rw [e]
      omega
  have pot' : pot g M n (put l (t % m) t) = pot g M n l - (look l (t % m)).getD (n * M) + t := by
    unfold pot
    have := sumTo_at (f := fun j => (look l (g * j)).getD (n * M)) (h := fun j => (look (put l (t % m) t) (g * j)).getD (n * M)) (i := j0) (n := n) hj fun j hne => by rw [off j hne]
    rw [this, on, ← ej]
    rfl
  have less : pot g M n (put l (t % m) t) + 1 ≤ pot g M n l := by
    rw [pot']
    cases h : look l (t % m) with
    | none =>
      show pot g M n l - n * M + t + 1 ≤ _
      have k1 : cnt g n (put l (t % m) t) ≤ n := cnt_le _
      have : (cnt g n (put l (t % m) t) - 1) * M ≤ (n - 1) * M := Int.mul_le_mul_of_nonneg_right (by omega) (by omega)
      have e : ((n : Int) - 1) * M = n * M - M := by rw [Int.sub_mul, Int.one_mul]
      omega
    | some v =>
      have := hb v h
      show pot g M n l - v + t + 1 ≤ _
      omega
  have keep : ∀ r v, look l r = some v → ∃ w, look (put l (t % m) t) r = some w ∧ w ≤ v := fun r v h => by
    rw [look_put]
    by_cases e : r = t % m
    · rw [if_pos e]; exact ⟨t, rfl, by have := hb v (by rw [← e]; exact h); omega⟩
    · rw [if_neg e]; exact ⟨v, h, Int.le_refl _⟩
  have ha' : look (put l (t % m) t) (a % m) = some a := by rw [look_put, if_neg fun e => hne e.symm]; exact ha
  refine ⟨⟨fun r v h => ?_, ?_, fun x hx => ?_, fun r k h => ?_, fun r v h hr => ?_, ?_, fun r v h => ?_, ?_, ?_, ?_, put_wf S.wf _ _⟩, ha', less, fun v hv c hc => ?_, fun r v h => ?_⟩
  · rw [look_put] at h
    split at h
    · rename_i e; cases h; exact ⟨e.symm, pt⟩
    · exact S.key r v h
  · rw [look_put, if_neg fun e => h0 e.symm]; exact S.zero
  · rcases List.mem_cons.mp (hq.mem_iff.mp hx) with rfl | hx
    · exact ⟨pt, x, by rw [look_put, if_pos rfl], Int.le_refl _⟩
    · obtain ⟨k1, w, k2, k3⟩ := S.que x hx
      obtain ⟨u, k4, k5⟩ := keep _ _ k2
      exact ⟨k1, u, k4, by omega⟩
  · rw [look_put] at h
    split at h
    · rename_i e
      cases h
      refine ⟨c, a, t, Int.natCast_nonneg _, by simpa using hc, by rw [look_put, if_pos e], ?_, by omega⟩
      have : (r - c) % m = a % m := by
        rw [e, Int.emod_sub_emod]
        congr 1
        omega
      rw [this]; exact ha'
    · rename_i e
      obtain ⟨c', u, v, k0, k1, k2, k3, k4⟩ := S.back r k h
      obtain ⟨w, k5, k6⟩ := keep _ _ k3
      exact ⟨c', w, v, k0, k1, by rw [look_put, if_neg e]; exact k2, k5, by omega⟩
  · rw [look_put]
    by_cases e : r = t % m
    · rw [if_pos e]; exact ⟨_, rfl⟩
    · rw [look_put, if_neg e] at h
      rw [if_neg e]; exact S.dom r v h hr
  · rw [look_put, if_neg fun e => h0 e.symm]; exact S.dom0
  · rw [look_put] at h
    split at h
    · cases h; exact tb
    · have := S.bnd r v h
      have : (cnt g n l - 1) * M ≤ (cnt g n (put l (t % m) t) - 1) * M := Int.mul_le_mul_of_nonneg_right (by omega) (by omega)
      omega
  · have := hq.length_eq
    rw [List.length_cons] at this
    have := S.lq
    omega
  · have := put_len l (t % m) t
    have := S.ll
    omega
  · have := put_len d (t % m) (i : Int)
    have := S.ld
    omega
  · obtain ⟨w, k1, k2⟩ := hv c hc
    obtain ⟨u, k3, k4⟩ := keep _ _ k1
    exact ⟨u, k3, by omega⟩
  · rw [look_put]
    by_cases e : r = t % m
    · exact .inr e
    · rw [if_neg e]; exact .inl h
end
end Lh.C
set_option Elab.async false
set_option linter.all false
set_option maxRecDepth 100000
set_option maxHeartbeats 2000000
/-! least_amounts, as a pure function. -/
namespace Lh.P.Co
open PySem PySem.Spec PyProof.Rows L2 _root_.SX Lh.P Lh.P.B Lh.C
def toD (l : Tab) : List (L2.Key × PV) := l.map fun q => ((Sum.inl q.1 : L2.Key), PV.int q.2)
theorem val_toD (l : Tab) (r : Int) : valP (toD l) (.inl r) = (look l r).map PV.int := by
  unfold valP look toD
  induction l with
  | nil => rfl
  | cons p l ih =>
    rw [List.map_cons]
    by_cases h : p.1 = r
    · rw [List.find?_cons_of_pos (by simpa using h), List.find?_cons_of_pos (by simpa using h)]; rfl
    · rw [List.find?_cons_of_neg (by simpa using h), List.find?_cons_of_neg (by simpa using h)]; exact ih
theorem put_toD (l : Tab) (r v : Int) : putP' (toD l) (.inl r) (.int v) = toD (put l r v) := by
  unfold putP' put
  have e : ((toD l).any fun q => decide (q.1 = (Sum.inl r : L2.Key))) = l.any fun q => decide (q.1 = r) := by
    unfold toD
    rw [List.any_map]
    congr 1
    funext q
    simp
  rw [e]
  split
  · unfold toD
    rw [List.map_map, List.map_map]
    congr 1
    funext q
    by_cases h : q.1 = r
    · simp [h]
    · simp [h]
  · unfold toD
    rw [List.map_append]
    rfl
/-! ### heaps of ints -/
theorem ord_ints (q : List Int) : ordP (q.map PV.int) = true := by
  unfold ordP
  rw [Bool.or_eq_true]
  refine .inl (List.all_eq_true.mpr fun x hx => ?_)
  obtain ⟨i, _, rfl⟩ := List.mem_map.mp hx
  rfl
def toI : PV → Int
  | .int i => i
  | _ => 0
theorem ints_back {xs : List PV} {q : List Int} (h : xs.Perm (q.map PV.int)) : ∃ q' : List Int, xs = q'.map PV.int ∧ q'.Perm q := by
  refine ⟨xs.map toI, ?_, ?_⟩
  · rw [List.map_map]
    symm
    have : ∀ x ∈ xs, (PV.int ∘ toI) x = x := fun x hx => by
      obtain ⟨i, _, rfl⟩ := List.mem_map.mp (h.mem_iff.mp hx)
      rfl
    calc xs.map (PV.int ∘ toI) = xs.map id := List.map_congr_left this
      _ = xs := List.map_id xs
  · have := h.map toI
    rw [List.map_map] at this
    have e : (toI ∘ PV.int) = id := by funext i; rfl
    rw [e, List.map_id] at this
    exact this
theorem push_ints (q : List Int) (t : Int) : ∃ q' : List Int, Lh.pushF ltP (q.map PV.int) (.int t) = q'.map PV.int ∧ q'.Perm (t :: q) :=
  ints_back (q := t :: q) (Lh.pushF_perm ltP (q.map PV.int) (.int t))
theorem pop_ints {q : List Int} (h : q ≠ []) : ∃ (x : Int) (q' : List Int), Lh.popF ltP (q.map PV.int) = some (.int x, q'.map PV.int) ∧ (x :: q').Perm q := by
  obtain ⟨y, ys, e⟩ := Lh.popF_none (lt := ltP) (xs := q.map PV.int) (by simpa using h)
  obtain ⟨q', e2, p⟩ := ints_back (Lh.popF_perm e)
  cases q' with
  | nil => cases e2
  | cons x q' =>
    cases e2
    exact ⟨x, q', e, p⟩
/-! ### the walk -/
section
variable {cs : List Int} {m g M : Int} {n : Nat} {k : Bool} {l d : Tab} {q : List Int} {C : Int}
abbrev env (k : Bool) (cs : List Int) (m : Int) (l d : Tab) (q : List Int) (x5 x6 x7 x8 : Option PV) : Env :=
  [some (rw_ k cs), some (.int m), some (.dic (toD l)), some (.dic (toD d)), some (.lst (q.map .int)), x5, x6, x7, x8]
abbrev gE2 : PV → Env → Option Env := gTupP 2 (gConsP (gN 6) (gConsP (gN 7) gNilP))
abbrev turn : Env → Out :=
  (thenB (dSet 8 (b2 (eV 5) (eV 7) pAdd))
 (ifB (bOr (bT (b2 (b2 (eV 8) (eV 1) pMod) (eV 2) pDnotin)) (bT (b2 (eV 8) (b2 (eV 2) (b2 (eV 8) (eV 1) pMod) pDget) iLt)))
 (thenB (dDput [1, 8] [4, 3, 2] 2 (eV 8) (b2 (eV 8) (eV 1) pMod))
 (thenB (dDput [1, 6, 8] [4, 3, 2] 3 (eV 6) (b2 (eV 8) (eV 1) pMod))
 (dPush 4 (eV 8))))
 .next))
theorem store {a c i : Int} (hl : (toD l).length < 16000000) (hd : (toD d).length < 16000000) (hq : q.length < 16000000)
    (hmod : (b2 (eV 8) (eV 1) pMod) (env k cs m l d q (some (.int a)) (some (.int i)) (some (.int c)) (some (.int (a + c)))) = .ok (.int ((a + c) % m))) :
    ∃ q' : List Int, q'.Perm ((a + c) :: q) ∧ (thenB (dDput [1, 8] [4, 3, 2] 2 (eV 8) (b2 (eV 8) (eV 1) pMod)) (thenB (dDput [1, 6, 8] [4, 3, 2] 3 (eV 6) (b2 (eV 8) (eV 1) pMod)) (dPush 4 (eV 8)))) (env k cs m l d q (some (.int a)) (some (.int i)) (some (.int c)) (some (.int (a + c)))) =
      .next (env k cs m (put l ((a + c) % m) (a + c)) (put d ((a + c) % m) i) q' (some (.int a)) (some (.int i)) (some (.int c)) (some (.int (a + c)))) := by
  obtain ⟨q', e, p⟩ := push_ints q (a + c)
  refine ⟨q', p, ?_⟩
  have hmod : pMod (.int (a + c)) (.int m) = .ok (.int ((a + c) % m)) := hmod
  have hp : ordP (q.map PV.int ++ [.int (a + c)]) = true := by
    have := ord_ints (q ++ [a + c])
    rwa [List.map_append] at this
  simp [thenB, dDput, dPush, b2, lk, hmod, keyP, sep, away, noQ, hl, hd, put_toD, hp, hq, e]
theorem turn_v (hm : 0 < m) (a c i : Int) (x8 : Option PV) (hl : l.length < 16000000) (hd : d.length < 16000000) (hq : q.length < 16000000) :
    (((look l ((a + c) % m) = none ∨ ∃ v, look l ((a + c) % m) = some v ∧ a + c < v) ∧ ∃ q' : List Int, q'.Perm ((a + c) :: q) ∧
      turn (env k cs m l d q (some (.int a)) (some (.int i)) (some (.int c)) x8) = .next (env k cs m (put l ((a + c) % m) (a + c)) (put d ((a + c) % m) i) q' (some (.int a)) (some (.int i)) (some (.int c)) (some (.int (a + c))))) ∨
    (∃ v, look l ((a + c) % m) = some v ∧ v ≤ a + c) ∧ turn (env k cs m l d q (some (.int a)) (some (.int i)) (some (.int c)) x8) = .next (env k cs m l d q (some (.int a)) (some (.int i)) (some (.int c)) (some (.int (a + c))))) := by
  have hl' : (toD l).length < 16000000 := by unfold toD; rw [List.length_map]; exact hl
  have hd' : (toD d).length < 16000000 := by unfold toD; rw [List.length_map]; exact hd
  have tset : ∀ b : Bool, (bOr (bT (b2 (b2 (eV 8) (eV 1) pMod) (eV 2) pDnotin)) (bT (b2 (eV 8) (b2 (eV 2) (b2 (eV 8) (eV 1) pMod) pDget) iLt))) (env k cs m l d q (some (.int a)) (some (.int i)) (some (.int c)) (some (.int (a + c)))) = .ok b →
      turn (env k cs m l d q (some (.int a)) (some (.int i)) (some (.int c)) x8) = if b = true then (thenB (dDput [1, 8] [4, 3, 2] 2 (eV 8) (b2 (eV 8) (eV 1) pMod)) (thenB (dDput [1, 6, 8] [4, 3, 2] 3 (eV 6) (b2 (eV 8) (eV 1) pMod)) (dPush 4 (eV 8)))) (env k cs m l d q (some (.int a)) (some (.int i)) (some (.int c)) (some (.int (a + c)))) else .next (env k cs m l d q (some (.int a)) (some (.int i)) (some (.int c)) (some (.int (a + c)))) := fun b hb => by
    have e : dSet 8 (b2 (eV 5) (eV 7) pAdd) (env k cs m l d q (some (.int a)) (some (.int i)) (some (.int c)) x8) = .next (env k cs m l d q (some (.int a)) (some (.int i)) (some (.int c)) (some (.int (a + c)))) := rfl
    exact (then_next e).trans (if_ok hb)
  have hmod : (b2 (eV 8) (eV 1) pMod) (env k cs m l d q (some (.int a)) (some (.int i)) (some (.int c)) (some (.int (a + c)))) = .ok (.int ((a + c) % m)) := pMod_pos hm
  cases hk : look l ((a + c) % m) with
  | none =>
    refine .inl ⟨.inl rfl, ?_⟩
    have t1 := tset true (by
      show ((Rs.bind ((b2 (eV 8) (eV 1) pMod) _) fun x => pDnotin x (.dic (toD l))).bind isB).bind _ = _
      rw [hmod, bind_ok]
      show ((Rs.ok (PV.bl (!(valP (toD l) (.inl ((a + c) % m))).isSome))).bind isB).bind _ = _
      rw [val_toD, hk]
      rfl)
    rw [t1, if_pos rfl]
    exact store hl' hd' hq hmod
  | some v =>
    by_cases hv : a + c < v
    · refine .inl ⟨.inr ⟨v, rfl, hv⟩, ?_⟩
      have t1 := tset true (by
        show ((Rs.bind ((b2 (eV 8) (eV 1) pMod) _) fun x => pDnotin x (.dic (toD l))).bind isB).bind _ = _
        rw [hmod, bind_ok]
        show ((Rs.ok (PV.bl (!(valP (toD l) (.inl ((a + c) % m))).isSome))).bind isB).bind _ = _
        rw [val_toD, hk]
        show (Rs.bind ((Rs.ok (PV.int (a + c))).bind fun x => (Rs.bind ((Rs.bind ((b2 (eV 8) (eV 1) pMod) _) fun y => pDget (.dic (toD l)) y)) fun y => iLt x y)) isB) = _
        rw [hmod, bind_ok, bind_ok]
        show (Rs.bind (Rs.bind (ofO (valP (toD l) (.inl ((a + c) % m)))) fun y => iLt (.int (a + c)) y) isB) = _
        rw [val_toD, hk]
        show Rs.ok (decide (a + c < v)) = _
        rw [decide_eq_true hv])
      rw [t1, if_pos rfl]
      exact store hl' hd' hq hmod
    · refine .inr ⟨⟨v, rfl, by omega⟩, ?_⟩
      have t1 := tset false (by
        show ((Rs.bind ((b2 (eV 8) (eV 1) pMod) _) fun x => pDnotin x (.dic (toD l))).bind isB).bind _ = _
        rw [hmod, bind_ok]
        show ((Rs.ok (PV.bl (!(valP (toD l) (.inl ((a + c) % m))).isSome))).bind isB).bind _ = _
        rw [val_toD, hk]
        show (Rs.bind ((Rs.ok (PV.int (a + c))).bind fun x => (Rs.bind ((Rs.bind ((b2 (eV 8) (eV 1) pMod) _) fun y => pDget (.dic (toD l)) y)) fun y => iLt x y)) isB) = _
        rw [hmod, bind_ok, bind_ok]
        show (Rs.bind (Rs.bind (ofO (valP (toD l) (.inl ((a + c) % m)))) fun y => iLt (.int (a + c)) y) isB) = _
        rw [val_toD, hk]
        show Rs.ok (decide (a + c < v)) = _
        rw [decide_eq_false hv])
      rw [t1, if_neg (by decide)]
/-- what holds within the turns for the amount a -/
structure Mid (cs : List Int) (m g M : Int) (n : Nat) (l d : Tab) (q : List Int) (C a : Int) (i : Nat) : Prop where
  st : St cs m g M n l d q C
  av : look l (a % m) = some a
  done : ∀ (j : Nat) (c : Int), j < i → cs[j]? = some c → ∃ w, look l ((a + c) % m) = some w ∧ w ≤ a + c
  cl : ∀ r v, look l r = some v → v ∈ q ∨ Closed cs m l v ∨ v = a
theorem small (F : Fix cs m g M n) (S : St cs m g M n l d q C) (hC : C < 16000000) : l.length < 16000000 ∧ d.length < 16000000 ∧ q.length < 16000000 := by
  have := pot_nonneg (g := g) (M := M) (n := n) F fun r v h => S.val_nonneg F h
  have := S.lq
  have := S.ll
  have := S.ld
  omega
theorem inner (F : Fix cs m g M n) (hC : C < 16000000) (a : Int) : ∀ (ts : List Int) (i : Nat) (l d : Tab) (q : List Int) (x6 x7 x8 : Option PV), cs.drop i = ts → Mid cs m g M n l d q C a i →
    ∃ l' d' q' x6' x7' x8', forL gE2 turn (enP i (ts.map .int)) (env k cs m l d q (some (.int a)) x6 x7 x8) = .next (env k cs m l' d' q' (some (.int a)) x6' x7' x8') ∧ Mid cs m g M n l' d' q' C a cs.length ∧ q'.length + 2 * Lh.C.pot g M n l' ≤ q.length + 2 * Lh.C.pot g M n l := by
  intro ts
  induction ts with
  | nil =>
    intro i l d q x6 x7 x8 hd Mi
    have hl : cs.length ≤ i := List.drop_eq_nil_iff.mp hd
    exact ⟨l, d, q, x6, x7, x8, rfl, ⟨Mi.st, Mi.av, fun j c hj hc => Mi.done j c (by omega) hc, Mi.cl⟩, Int.le_refl _⟩
  | cons c ts ih =>
    intro i l d q x6 x7 x8 hd Mi
    have hil : i < cs.length := by
      rcases Nat.lt_or_ge i cs.length with z | z
      · exact z
      · rw [List.drop_eq_nil_of_le z] at hd; cases hd
    rw [List.drop_eq_getElem_cons hil] at hd
    injection hd with hd1 hd2
    have hc : cs[i]? = some c := by rw [List.getElem?_eq_getElem hil, hd1]
    have hcm : c ∈ cs := List.mem_of_getElem? hc
    obtain ⟨s1, s2, s3⟩ := small F Mi.st hC
    have g1 : gE2 (.tup [.int (i : Nat), .int c]) (env k cs m l d q (some (.int a)) x6 x7 x8) = some (env k cs m l d q (some (.int a)) (some (.int (i : Nat))) (some (.int c)) x8) := rfl
    rcases turn_v (k := k) (cs := cs) F.m_pos a c (i : Nat) x8 s1 s2 s3 with ⟨hb, q', hp, e⟩ | ⟨⟨v, hv, hle⟩, e⟩
    · have hb2 : ∀ v, look l ((a + c) % m) = some v → a + c < v := fun v hv => by
        rcases hb with hb | ⟨u, hu, hlt⟩
        · rw [hb] at hv; cases hv
        · rw [hu] at hv; cases hv; exact hlt
      obtain ⟨S', a', less, cl', kp⟩ := Mi.st.step F (a := a) (t := a + c) (i := i) hc Mi.av rfl hb2 hp
      have M' : Mid cs m g M n (put l ((a + c) % m) (a + c)) (put d ((a + c) % m) i) q' C a (i + 1) := by
        refine ⟨S', a', fun j c' hj hc' => ?_, fun r v h => ?_⟩
        · by_cases hji : j = i
          · subst hji
            rw [hc] at hc'; cases hc'
            exact ⟨a + c, by rw [look_put, if_pos rfl], Int.le_refl _⟩
          · obtain ⟨w, k1, k2⟩ := Mi.done j c' (by omega) hc'
            rw [look_put]
            by_cases er : (a + c') % m = (a + c) % m
            · rw [if_pos er]
              rw [er] at k1
              exact ⟨_, rfl, by have := hb2 w k1; omega⟩
            · rw [if_neg er]; exact ⟨w, k1, k2⟩
        · rw [look_put] at h
          split at h
          · cases h
            exact .inl (hp.mem_iff.mpr List.mem_cons_self)
          · rcases Mi.cl r v h with z | z | z
            · exact .inl (hp.mem_iff.mpr (List.mem_cons_of_mem _ z))
            · exact .inr (.inl (cl' v z))
            · exact .inr (.inr z)
      obtain ⟨l2, d2, q2, y6, y7, y8, h1, h2, h3⟩ := ih (i + 1) _ _ q' (some (.int (i : Nat))) (some (.int c)) (some (.int (a + c))) hd2 M'
      refine ⟨l2, d2, q2, y6, y7, y8, ?_, h2, ?_⟩
      · exact (forL_next (x := .tup [.int (i : Nat), .int c]) g1 (.inl e)).trans h1
      · have := hp.length_eq
        rw [List.length_cons] at this
        omega
    · have M' : Mid cs m g M n l d q C a (i + 1) := by
        refine ⟨Mi.st, Mi.av, fun j c' hj hc' => ?_, Mi.cl⟩
        by_cases hji : j = i
        · subst hji
          rw [hc] at hc'; cases hc'
          exact ⟨v, hv, hle⟩
        · exact Mi.done j c' (by omega) hc'
      obtain ⟨l2, d2, q2, y6, y7, y8, h1, h2, h3⟩ := ih (i + 1) l d q (some (.int (i : Nat))) (some (.int c)) (some (.int (a + c))) hd2 M'
      exact ⟨l2, d2, q2, y6, y7, y8, (forL_next (x := .tup [.int (i : Nat), .int c]) g1 (.inl e)).trans h1, h2, h3⟩
abbrev test1 : Env → Rs Bool := bT (b2 (eV 5) (b2 (eV 2) (b2 (eV 5) (eV 1) pMod) pDget) iGt)
abbrev round : Env → Out := thenB (dPop 4 (gN 5)) (thenB (ifB test1 .cont .next) (dFor (iEn (aCons (eV 0) aNil)) gE2 turn))
/-- between the rounds -/
structure Out1 (cs : List Int) (m g M : Int) (n : Nat) (l d : Tab) (q : List Int) (C : Int) : Prop where
  st : St cs m g M n l d q C
  cl : ∀ r v, look l r = some v → v ∈ q ∨ Closed cs m l v
theorem round_v (F : Fix cs m g M n) (hC : C < 16000000) (x5 x6 x7 x8 : Option PV) (hq : q ≠ []) (J : Out1 cs m g M n l d q C) :
    ∃ l' d' q' y5 y6 y7 y8, (round (env k cs m l d q x5 x6 x7 x8) = .next (env k cs m l' d' q' y5 y6 y7 y8) ∨ round (env k cs m l d q x5 x6 x7 x8) = .cont (env k cs m l' d' q' y5 y6 y7 y8)) ∧ Out1 cs m g M n l' d' q' C ∧ q'.length + 2 * Lh.C.pot g M n l' + 1 ≤ q.length + 2 * Lh.C.pot g M n l := by
  obtain ⟨x, q1, hp, pp⟩ := pop_ints hq
  have e1 : dPop 4 (gN 5) (env k cs m l d q x5 x6 x7 x8) = .next (env k cs m l d q1 (some (.int x)) x6 x7 x8) := by
    show (if ordP (q.map PV.int) = true then _ else _) = _
    rw [if_pos (ord_ints q), hp]
    rfl
  have hlen := pp.length_eq
  rw [List.length_cons] at hlen
  obtain ⟨px, w, hw, hwx⟩ := J.st.que x (pp.mem_iff.mp List.mem_cons_self)
  have S1 : St cs m g M n l d q1 C := ⟨J.st.key, J.st.zero, fun y hy => J.st.que y (pp.mem_iff.mp (List.mem_cons_of_mem _ hy)), J.st.back, J.st.dom, J.st.dom0, J.st.bnd, by have := J.st.lq; omega, J.st.ll, J.st.ld, J.st.wf⟩
  have e2 : test1 (env k cs m l d q1 (some (.int x)) x6 x7 x8) = .ok (decide (w < x)) := by
    show (Rs.bind ((pMod (.int x) (.int m)).bind fun y => pDget (.dic (toD l)) y) fun y => iGt (.int x) y).bind isB = _
    rw [pMod_pos F.m_pos, bind_ok]
    show (Rs.bind (ofO (valP (toD l) (.inl (x % m)))) fun y => iGt (.int x) y).bind isB = _
    rw [val_toD, hw]
    rfl
  by_cases hlt : w < x
  · rw [decide_eq_true hlt] at e2
    refine ⟨l, d, q1, _, x6, x7, x8, .inr ((then_next e1).trans (then_cont (if_yes e2))), ⟨S1, fun r v h => ?_⟩, by omega⟩
    rcases J.cl r v h with z | z
    · rcases List.mem_cons.mp (pp.mem_iff.mpr z) with e | z
      · -- v = x: then x is what stands at its rest
        have := (J.st.key r v h).1
        rw [e] at this h
        rw [this, h] at hw
        cases hw
        omega
      · exact .inl z
    · exact .inr z
  · rw [decide_eq_false hlt] at e2
    have ex : w = x := by omega
    subst ex
    have M0 : Mid cs m g M n l d q1 C w 0 := ⟨S1, hw, fun j c hj _ => by omega, fun r v h => by
      rcases J.cl r v h with z | z
      · rcases List.mem_cons.mp (pp.mem_iff.mpr z) with e | z
        · exact .inr (.inr e)
        · exact .inl z
      · exact .inr (.inl z)⟩
    obtain ⟨l', d', q', y6, y7, y8, h1, h2, h3⟩ := inner (k := k) F hC w cs 0 l d q1 x6 x7 x8 rfl M0
    refine ⟨l', d', q', _, y6, y7, y8, .inl ((then_next e1).trans ((then_next (if_no e2)).trans ((for_ok (ps := enP 0 (cs.map .int)) ?_).trans h1))), ⟨h2.st, fun r v h => ?_⟩, by omega⟩
    · show Rs.bind (Rs.ok [rw_ k cs]) pEnum = _
      rw [bind_ok, enum_rw]
    · rcases h2.cl r v h with z | z | z
      · exact .inl z
      · exact .inr z
      · subst z
        refine .inr fun c hc => ?_
        obtain ⟨j, hj, e⟩ := List.getElem_of_mem hc
        exact h2.done j c hj (by rw [List.getElem?_eq_getElem hj, e])
theorem rounds (F : Fix cs m g M n) (hC : C < 16000000) : ∀ (fl : Nat) (l d : Tab) (q : List Int) (x5 x6 x7 x8 : Option PV), Out1 cs m g M n l d q C → q.length + 2 * Lh.C.pot g M n l < fl →
    ∃ l' d' y5 y6 y7 y8, whileL (bTru (eV 4)) round fl (env k cs m l d q x5 x6 x7 x8) = .next (env k cs m l' d' [] y5 y6 y7 y8) ∧ Out1 cs m g M n l' d' [] C := by
  intro fl
  induction fl with
  | zero =>
    intro l d q x5 x6 x7 x8 J h
    have := pot_nonneg (g := g) (M := M) (n := n) F fun r v h => J.st.val_nonneg F h
    omega
  | succ fl ih =>
    intro l d q x5 x6 x7 x8 J h
    have et : bTru (eV 4) (env k cs m l d q x5 x6 x7 x8) = .ok (!(q.map PV.int).isEmpty) := rfl
    cases q with
    | nil => exact ⟨l, d, x5, x6, x7, x8, whileL_end et, J⟩
    | cons y q =>
      obtain ⟨l', d', q', y5, y6, y7, y8, h1, h2, h3⟩ := round_v (k := k) F hC x5 x6 x7 x8 (by simp) J
      obtain ⟨l2, d2, z5, z6, z7, z8, k1, k2⟩ := ih l' d' q' y5 y6 y7 y8 h2 (by omega)
      exact ⟨l2, d2, z5, z6, z7, z8, (whileL_go et h1).trans k1, k2⟩
end
end Lh.P.Co
set_option Elab.async false
set_option linter.all false
set_option maxRecDepth 100000
set_option maxHeartbeats 2000000
/-! least_amounts, common_divisor, sure_amount. -/
namespace Lh.P.Co
open PySem PySem.Spec PyProof.Rows L2 _root_.SX Lh.P Lh.P.B Lh.C
/-- rows of coins as the law draws them -/
structure Coins (cs : List Int) : Prop where
  ne : cs ≠ []
  lo : ∀ c ∈ cs, 0 < c
  hi : ∀ c ∈ cs, c ≤ 240
  few : cs.length ≤ 7
section
variable {cs : List Int} {A : Ad} {k : Bool}
def minL (cs : List Int) : Int := cs.tail.foldl min (cs.headD 0)
def maxL (cs : List Int) : Int := cs.tail.foldl max (cs.headD 0)
theorem Coins.cons (W : Coins cs) : ∃ c r, cs = c :: r := by
  cases cs with
  | nil => exact absurd rfl W.ne
  | cons c r => exact ⟨c, r, rfl⟩
theorem min_v (W : Coins cs) : pBest min [rw_ k cs] = .ok (.int (minL cs)) := by
  obtain ⟨c, r, rfl⟩ := W.cons
  exact best_rw min k c r
theorem max_v (W : Coins cs) : pBest max [rw_ k cs] = .ok (.int (maxL cs)) := by
  obtain ⟨c, r, rfl⟩ := W.cons
  exact best_rw max k c r
theorem min_mem (W : Coins cs) : minL cs ∈ cs ∧ ∀ c ∈ cs, minL cs ≤ c := by
  obtain ⟨c, r, rfl⟩ := W.cons
  exact foldl_min r c
theorem max_mem (W : Coins cs) : maxL cs ∈ cs ∧ ∀ c ∈ cs, c ≤ maxL cs := by
  obtain ⟨c, r, rfl⟩ := W.cons
  exact Lh.foldl_max r c
/-- how many rests there are at most -/
def restsN (cs : List Int) : Nat := (minL cs / gcdL cs).toNat
theorem Coins.fix (W : Coins cs) : Fix cs (minL cs) (gcdL cs) (maxL cs) (restsN cs) := by
  have hm := min_mem W
  have g0 := gcdL_pos W.lo hm.1
  have d := gcdL_dvd _ hm.1
  refine ⟨W.lo, hm.1, g0, gcdL_dvd, ?_, (max_mem W).2⟩
  have h0 : 0 ≤ minL cs / gcdL cs := Int.ediv_nonneg (by have := W.lo _ hm.1; omega) (by omega)
  have e : (restsN cs : Int) = minL cs / gcdL cs := by unfold restsN; omega
  rw [e]
  exact Int.mul_ediv_cancel' d
theorem rests_pos (W : Coins cs) : 0 < restsN cs := by
  have F := W.fix
  have hm := F.m_pos
  have e := F.gm
  rcases Nat.eq_zero_or_pos (restsN cs) with z | z
  · rw [z] at e; simp at e; omega
  · exact z
theorem rests_le (W : Coins cs) : (restsN cs : Int) ≤ 240 := by
  have F := W.fix
  have e := F.gm
  have := W.hi _ (min_mem W).1
  have g0 := F.gp
  have : (restsN cs : Int) * 1 ≤ (restsN cs : Int) * gcdL cs := Int.mul_le_mul_of_nonneg_left (by omega) (Int.natCast_nonneg _)
  rw [Int.mul_comm] at e
  omega
/-- the state at the start -/
theorem start_st (W : Coins cs) : ∃ C, C < 16000000 ∧ Out1 cs (minL cs) (gcdL cs) (maxL cs) (restsN cs) [(0, 0)] [] [0] C ∧ (1 : Int) + 2 * Lh.C.pot (gcdL cs) (maxL cs) (restsN cs) [(0, 0)] < 100000000 := by
  have F := W.fix
  have hn := rests_pos W
  have hm := F.m_pos
  have gp := F.gp
  have lk0 : ∀ r v, look [(0, 0)] r = some v → r = 0 ∧ v = 0 := fun r v h => by
    rw [look_cons] at h
    by_cases z : (0 : Int) = r
    · rw [if_pos z] at h; cases h; exact ⟨z.symm, rfl⟩
    · rw [if_neg z] at h; cases h
  have at0 : look [((0 : Int), (0 : Int))] (gcdL cs * ((0 : Nat) : Int)) = some 0 := by simp [look_cons]
  have off : ∀ j : Nat, j ≠ 0 → look [((0 : Int), (0 : Int))] (gcdL cs * (j : Int)) = none := fun j hj => by
    cases e : look [((0 : Int), (0 : Int))] (gcdL cs * (j : Int)) with
    | none => rfl
    | some v =>
      have := (lk0 _ _ e).1
      have := Int.mul_pos gp (show (0 : Int) < j by omega)
      omega
  have pot0 : Lh.C.pot (gcdL cs) (maxL cs) (restsN cs) [(0, 0)] = restsN cs * (restsN cs * maxL cs) - restsN cs * maxL cs := by
    unfold Lh.C.pot
    have := sumTo_at (f := fun _ => (restsN cs : Int) * maxL cs) (h := fun j => (look [((0 : Int), (0 : Int))] (gcdL cs * (j : Int))).getD (restsN cs * maxL cs)) (i := 0) (n := restsN cs) hn fun j hj => by rw [off j hj]; rfl
    rw [this, sumTo_const, at0]
    show _ - _ + 0 = _
    omega
  have cnt0 : Lh.C.cnt (gcdL cs) (restsN cs) [(0, 0)] = 1 := by
    unfold Lh.C.cnt
    have := sumTo_at (f := fun _ => (0 : Int)) (h := fun j => if (look [((0 : Int), (0 : Int))] (gcdL cs * (j : Int))).isSome then (1 : Int) else 0) (i := 0) (n := restsN cs) hn fun j hj => by rw [off j hj]; rfl
    rw [this, sumTo_const, at0]
    rfl
  have hM : maxL cs ≤ 240 := W.hi _ (max_mem W).1
  have hM0 := F.M_pos
  have hn2 := rests_le W
  have b1 : (restsN cs : Int) * maxL cs ≤ 240 * 240 := Int.mul_le_mul hn2 hM (by omega) (by omega)
  have b0 : 0 ≤ (restsN cs : Int) * maxL cs := Int.mul_nonneg (by omega) (by omega)
  have b2 : (restsN cs : Int) * (restsN cs * maxL cs) ≤ 240 * (240 * 240) := Int.mul_le_mul hn2 b1 b0 (by omega)
  have b3 : (0 : Int) ≤ Lh.C.pot (gcdL cs) (maxL cs) (restsN cs) [(0, 0)] := pot_nonneg F fun r v h => by rw [(lk0 r v h).2]; omega
  refine ⟨Lh.C.pot (gcdL cs) (maxL cs) (restsN cs) [(0, 0)] + 1, by omega, ⟨⟨fun r v h => ?_, rfl, fun x hx => ?_, fun r i h => ?_, fun r v h hr => ?_, rfl, fun r v h => ?_, ?_, ?_, ?_, fun p hp => ?_⟩, fun r v h => ?_⟩, by omega⟩
  · obtain ⟨rfl, rfl⟩ := lk0 r v h
    exact ⟨Int.zero_emod _, .zero⟩
  · have : x = 0 := by simpa using hx
    subst this
    exact ⟨.zero, 0, by rw [Int.zero_emod]; rfl, Int.le_refl _⟩
  · cases h
  · exact absurd (lk0 r v h).1 hr
  · obtain ⟨rfl, rfl⟩ := lk0 r v h
    rw [cnt0]; omega
  · show ((1 : Nat) : Int) + _ ≤ _; omega
  · show ((1 : Nat) : Int) + _ ≤ _; omega
  · show ((0 : Nat) : Int) + _ ≤ _; omega
  · have : p = (0, 0) := by simpa using hp
    subst this; rfl
  · obtain ⟨rfl, rfl⟩ := lk0 r v h
    exact .inl (by simp)
/-- what least_amounts gives -/
structure Found (cs : List Int) (l d : Tab) : Prop where
  least : Least cs (minL cs) (look l)
  back : ∀ r i, look d r = some i → ∃ c u v, 0 ≤ i ∧ cs[i.toNat]? = some c ∧ look l r = some v ∧ look l ((r - c) % minL cs) = some u ∧ u + c ≤ v
  dom : ∀ r v, look l r = some v → r ≠ 0 → ∃ i, look d r = some i
  dom0 : look d 0 = none
  bnd : ∀ r v, look l r = some v → v ≤ (restsN cs - 1) * maxL cs
  wf : ∀ p ∈ l, look l p.1 = some p.2
theorem least_v (W : Coins cs) : ∃ l d, F_least_amounts A [rw_ k cs] = .ok (.tup [.dic (toD l), .dic (toD d)]) ∧ Found cs l d := by
  have F := W.fix
  obtain ⟨C, hC, J, hfl⟩ := start_st W
  obtain ⟨l, d, y5, y6, y7, y8, e, J'⟩ := rounds (k := k) F hC fuel [(0, 0)] [] [0] none none none none J (by unfold fuel; show ((1 : Nat) : Int) + _ < _; omega)
  refine ⟨l, d, ?_, ⟨F.mem, F.pos, J'.st.key, J'.st.zero, fun r v c h hc => ?_⟩, J'.st.back, J'.st.dom, J'.st.dom0, fun r v h => ?_, J'.st.wf⟩
  · have hs : F_least_amounts A [rw_ k cs] = bodyR (B_least_amounts A [some (rw_ k cs), none, none, none, none, none, none, none, none]) := rfl
    rw [hs]
    unfold B_least_amounts
    have e1 : dSet 1 (bC (aCons (eV 0) aNil) (pBest min)) [some (rw_ k cs), none, none, none, none, none, none, none, none] = .next [some (rw_ k cs), some (.int (minL cs)), none, none, none, none, none, none, none] := set_ok (p := .int (minL cs)) (min_v W)
    rw [then_next e1]
    have e2 : dSet 2 (fun _ => .ok (.dic [(.inl 0, .int 0)])) [some (rw_ k cs), some (.int (minL cs)), none, none, none, none, none, none, none] = .next [some (rw_ k cs), some (.int (minL cs)), some (.dic (toD [(0, 0)])), none, none, none, none, none, none] := rfl
    rw [then_next e2]
    have e3 : dSet 3 (fun _ => .ok (.dic [])) [some (rw_ k cs), some (.int (minL cs)), some (.dic (toD [(0, 0)])), none, none, none, none, none, none] = .next [some (rw_ k cs), some (.int (minL cs)), some (.dic (toD [(0, 0)])), some (.dic (toD [])), none, none, none, none, none] := rfl
    rw [then_next e3]
    have e4 : dSet 4 (eLst (aCons (eC (.int 0)) aNil)) [some (rw_ k cs), some (.int (minL cs)), some (.dic (toD [(0, 0)])), some (.dic (toD [])), none, none, none, none, none] = .next (env k cs (minL cs) [(0, 0)] [] [0] none none none none) := rfl
    rw [then_next e4]
    refine (congrArg bodyR (then_next e)).trans ?_
    rfl
  · rcases J'.cl r v h with z | z
    · cases z
    · exact z c hc
  · have h1 := J'.st.bnd r v h
    have h2 : Lh.C.cnt (gcdL cs) (restsN cs) l ≤ restsN cs := cnt_le _
    have : (Lh.C.cnt (gcdL cs) (restsN cs) l - 1) * maxL cs ≤ (restsN cs - 1) * maxL cs := Int.mul_le_mul_of_nonneg_right (by omega) (by have := F.M_pos; omega)
    omega
/-! ### common_divisor -/
theorem gcd_loop (x0 : PV) : ∀ (xs : List Int) (d : Int) (x2 : Option PV), ∃ y2, forL (gN 2) (dSet 1 (bC (aCons (eV 1) (aCons (eV 2) aNil)) pGcd)) (xs.map .int) [some x0, some (.int d), x2] = .next [some x0, some (.int (xs.foldl (fun d c => ((Nat.gcd d.natAbs c.natAbs : Nat) : Int)) d)), y2]
  | [], d, x2 => ⟨x2, rfl⟩
  | c :: xs, d, x2 => by
    obtain ⟨y2, h⟩ := gcd_loop x0 xs (((Nat.gcd d.natAbs c.natAbs : Nat) : Int)) (some (.int c))
    refine ⟨y2, ?_⟩
    rw [List.map_cons]
    exact (forL_next (fb := dSet 1 (bC (aCons (eV 1) (aCons (eV 2) aNil)) pGcd)) (Γ1 := [some x0, some (.int d), some (.int c)]) (Γ2 := [some x0, some (.int ((Nat.gcd d.natAbs c.natAbs : Nat) : Int)), some (.int c)]) rfl (.inl rfl)).trans h
theorem divisor_v (cs : List Int) : F_common_divisor A [rw_ k cs] = .ok (.int (gcdL cs)) := by
  have hs : F_common_divisor A [rw_ k cs] = bodyR (B_common_divisor A [some (rw_ k cs), none, none]) := rfl
  rw [hs]
  unfold B_common_divisor
  have e1 : dSet 1 (eC (.int 0)) [some (rw_ k cs), none, none] = .next [some (rw_ k cs), some (.int 0), none] := rfl
  rw [then_next e1]
  obtain ⟨y2, h⟩ := gcd_loop (rw_ k cs) cs 0 none
  have e2 : dFor (iAny (eV 0)) (gN 2) (dSet 1 (bC (aCons (eV 1) (aCons (eV 2) aNil)) pGcd)) [some (rw_ k cs), some (.int 0), none] = _ := (for_ok (ps := cs.map .int) (items_rw k cs)).trans h
  rw [then_next e2]
  rfl
/-! ### sure_amount -/
def topL (l : Tab) : Int := (l.map (·.2)).tail.foldl max ((l.map (·.2)).headD 0)
theorem top_ok {l d : Tab} (Fo : Found cs l d) : Top (look l) (topL l) ∧ pMaxV (.dic (toD l)) = .ok (.int (topL l)) := by
  have hl : l ≠ [] := fun e => by
    have := Fo.least.zero
    rw [e] at this; cases this
  obtain ⟨p, r, rfl⟩ : ∃ p r, l = p :: r := by
    cases l with
    | nil => exact absurd rfl hl
    | cons p r => exact ⟨p, r, rfl⟩
  obtain ⟨h1, h2⟩ := Lh.foldl_max (r.map (·.2)) p.2
  refine ⟨⟨?_, fun x v h => ?_⟩, ?_⟩
  · have : topL (p :: r) ∈ (p :: r).map (·.2) := h1
    obtain ⟨u, hu, e⟩ := List.mem_map.mp this
    exact ⟨u.1, by rw [← e]; exact Fo.wf u hu⟩
  · have : v ∈ (p :: r).map (·.2) := by
      unfold look at h
      obtain ⟨u, hu, e⟩ := Option.map_eq_some_iff.mp h
      exact List.mem_map.mpr ⟨u, List.mem_of_find?_eq_some hu, e⟩
    exact h2 v this
  · have e : ∀ l : Tab, intVals (toD l) = some (l.map (·.2)) := by
      intro l
      induction l with
      | nil => rfl
      | cons u l ih =>
        show (intVals (toD l)).map (u.2 :: ·) = _
        rw [ih]; rfl
    show (match intVals (toD (p :: r)) with
      | some (n :: ns) => (Rs.ok (PV.int (ns.foldl max n)) : Rs PV)
      | _ => Rs.bad) = _
    rw [e]
    rfl
theorem sure_v (W : Coins cs) : ∃ l d, Found cs l d ∧ F_sure_amount A [rw_ k cs] = .ok (.int (topL l - minL cs + gcdL cs)) ∧ F_least_amounts A [rw_ k cs] = .ok (.tup [.dic (toD l), .dic (toD d)]) := by
  obtain ⟨l, d, e, Fo⟩ := least_v (A := A) (k := k) W
  refine ⟨l, d, Fo, ?_, e⟩
  have hs : F_sure_amount A [rw_ k cs] = bodyR (B_sure_amount A [some (rw_ k cs), none, none]) := rfl
  rw [hs]
  unfold B_sure_amount
  have e1 : dUnp (gTupP 2 (gConsP (gN 1) (gConsP (gN 2) gNilP))) (bC (aCons (eV 0) aNil) (F_least_amounts A)) [some (rw_ k cs), none, none] = .next [some (rw_ k cs), some (.dic (toD l)), some (.dic (toD d))] := unp_ok (p := .tup [.dic (toD l), .dic (toD d)]) e rfl
  rw [then_next e1]
  have t := (top_ok Fo).2
  have m := min_v (k := k) W
  have g := divisor_v (A := A) (k := k) cs
  have e2 : (b2 (b2 (b1 (eV 1) pMaxV) (bC (aCons (eV 0) aNil) (pBest min)) iSub) (bC (aCons (eV 0) aNil) (F_common_divisor A)) pAdd) [some (rw_ k cs), some (.dic (toD l)), some (.dic (toD d))] = .ok (.int (topL l - minL cs + gcdL cs)) := by
    show Rs.bind ((Rs.bind (pMaxV (.dic (toD l))) fun x => Rs.bind (pBest min [rw_ k cs]) fun y => iSub x y)) (fun x => Rs.bind (F_common_divisor A [rw_ k cs]) fun y => pAdd x y) = _
    rw [t, m, g]
    rfl
  exact congrArg bodyR (ret_ok e2)
end
end Lh.P.Co
set_option Elab.async false
set_option linter.all false
set_option maxRecDepth 100000
set_option maxHeartbeats 2000000
/-! pay. -/
namespace Lh.P.Co
open PySem PySem.Spec PyProof.Rows L2 _root_.SX Lh.P Lh.P.B Lh.C
def dot : List Int → List Int → Int
  | x :: xs, c :: cs => x * c + dot xs cs
  | _, _ => 0
theorem dot_set : ∀ {xs cs : List Int} {j : Nat} {x y c : Int}, xs[j]? = some x → cs[j]? = some c → dot (xs.set j y) cs = dot xs cs + (y - x) * c
  | [], _, _, _, _, _, h, _ => by simp at h
  | _ :: _, [], _, _, _, _, _, h => by simp at h
  | u :: xs, d :: cs, 0, x, y, c, h1, h2 => by
    simp at h1 h2
    subst h1 h2
    show y * d + dot xs cs = u * d + dot xs cs + (y - u) * d
    rw [Int.sub_mul]; omega
  | u :: xs, d :: cs, j + 1, x, y, c, h1, h2 => by
    have := dot_set (xs := xs) (cs := cs) (j := j) (x := x) (y := y) (c := c) (by simpa using h1) (by simpa using h2)
    show u * d + dot (xs.set j y) cs = u * d + dot xs cs + (y - x) * c
    omega
theorem dot_zero : ∀ (cs : List Int) (n : Nat), dot (List.replicate n 0) cs = 0
  | _, 0 => by cases ‹List Int› <;> rfl
  | [], n + 1 => rfl
  | c :: cs, n + 1 => by
    rw [List.replicate_succ]
    show 0 * c + dot (List.replicate n 0) cs = 0
    rw [dot_zero cs n, Int.zero_mul]; rfl
section
variable {cs : List Int} {A : Ad} {k : Bool} {l d : Tab} {amount : Int}
abbrev penv (k : Bool) (cs : List Int) (amount : Int) (l d : Tab) (x5 x6 x7 : Option PV) : Env :=
  [some (rw_ k cs), some (.int amount), some (.dic (toD l)), some (.dic (toD d)), some (.int (minL cs)), x5, x6, x7]
abbrev step2 : Env → Out := thenB (dSet 7 (b2 (eV 3) (eV 5) pDget)) (thenB (dAug [7] [6] 6 (fun a b => a + b) (eV 7) (eC (.int 1))) (dSet 5 (b2 (b2 (eV 5) (b2 (eV 0) (eV 7) pIx) iSub) (eV 4) pMod)))
theorem walk2 (W : Coins cs) (Fo : Found cs l d) : ∀ (fl : Nat) (r v : Int) (xs : List Int) (x7 : Option PV), look l r = some v → xs.length = cs.length → (∀ x ∈ xs, 0 ≤ x) → dot xs cs + v = amount → v.toNat < fl →
    ∃ xs' y5 y7, whileL (bT (b2 (eV 5) (eV 3) pDin)) step2 fl (penv k cs amount l d (some (.int r)) (some (.lst (xs.map .int))) x7) = .next (penv k cs amount l d y5 (some (.lst (xs'.map .int))) y7) ∧ xs'.length = cs.length ∧ (∀ x ∈ xs', 0 ≤ x) ∧ dot xs' cs = amount := by
  intro fl
  induction fl with
  | zero => intro r v xs x7 _ _ _ _ h; omega
  | succ fl ih =>
    intro r v xs x7 hv hl h0 hd hf
    have et : bT (b2 (eV 5) (eV 3) pDin) (penv k cs amount l d (some (.int r)) (some (.lst (xs.map .int))) x7) = .ok (look d r).isSome := by
      show Rs.bind (Rs.ok (PV.bl (valP (toD d) (.inl r)).isSome)) isB = _
      rw [val_toD]
      cases look d r <;> rfl
    have nn := (Fo.least.key _ _ hv).2.nonneg W.lo
    by_cases hr : r = 0
    · subst hr
      rw [Fo.dom0] at et
      have := Fo.least.zero
      rw [hv] at this
      cases this
      exact ⟨xs, _, _, whileL_end et, hl, h0, by omega⟩
    · obtain ⟨i, hi⟩ := Fo.dom r v hv hr
      rw [hi] at et
      obtain ⟨c, u, v', i0, hc, hv', hu, hle⟩ := Fo.back r i hi
      rw [hv] at hv'
      cases hv'
      have hm := Fo.least.m_pos
      have hcm : c ∈ cs := List.mem_of_getElem? hc
      have cp := W.lo _ hcm
      -- no shorter way
      have eq : u + c = v := by
        obtain ⟨w, hw, hwle⟩ := Fo.least.closed _ u c hu hcm
        have e : (u + c) % minL cs = r := by
          have e1 := (Fo.least.key _ _ hu).1
          have e2 := (Fo.least.key _ _ hv).1
          rw [Int.add_emod, e1, ← Int.add_emod, Int.sub_add_cancel, ← e2]
          exact Int.emod_emod_of_dvd _ (Int.dvd_refl _)
        rw [e, hv] at hw
        cases hw
        omega
      have hil : i.toNat < xs.length := by rw [hl]; exact (List.getElem?_eq_some_iff.mp hc).1
      have hx : xs[i.toNat]? = some xs[i.toNat] := List.getElem?_eq_getElem hil
      have eb : step2 (penv k cs amount l d (some (.int r)) (some (.lst (xs.map .int))) x7) = .next (penv k cs amount l d (some (.int ((r - c) % minL cs))) (some (.lst ((xs.set i.toNat (xs[i.toNat] + 1)).map .int))) (some (.int i))) := by
        have e1 : dSet 7 (b2 (eV 3) (eV 5) pDget) (penv k cs amount l d (some (.int r)) (some (.lst (xs.map .int))) x7) = .next (penv k cs amount l d (some (.int r)) (some (.lst (xs.map .int))) (some (.int i))) := by
          refine set_ok (p := .int i) ?_
          show ofO (valP (toD d) (.inl r)) = _
          rw [val_toD, hi]; rfl
        refine (then_next e1).trans ?_
        have e2 : dAug [7] [6] 6 (fun a b => a + b) (eV 7) (eC (.int 1)) (penv k cs amount l d (some (.int r)) (some (.lst (xs.map .int))) (some (.int i))) = .next (penv k cs amount l d (some (.int r)) (some (.lst ((xs.set i.toNat (xs[i.toNat] + 1)).map .int))) (some (.int i))) := by
          have g : (xs.map PV.int)[i.toNat]? = some (.int xs[i.toNat]) := by rw [List.getElem?_map, hx]; rfl
          show outE (Rs.bind (Rs.ok (PV.int i)) fun kk => Rs.bind (match (some (some (PV.lst (xs.map .int))) : Option (Option PV)), kk with
            | some (some (.lst xs)), .int j => if 0 ≤ j then ofO xs[j.toNat]? else .bad
            | _, _ => .bad) fun x => _) _ _ = _
          rw [bind_ok]
          show outE (Rs.bind (if 0 ≤ i then ofO (xs.map PV.int)[i.toNat]? else .bad) fun x => _) _ _ = _
          rw [if_pos i0, g]
          show Out.next _ = _
          rw [List.map_set]
          rfl
        refine (then_next e2).trans ?_
        refine set_ok (p := .int ((r - c) % minL cs)) ?_
        show Rs.bind (Rs.bind (Rs.ok (PV.int r)) fun x => Rs.bind (pIx (rw_ k cs) (.int i)) fun y => iSub x y) (fun x => pMod x (.int (minL cs))) = _
        rw [bind_ok, ix_rw i0 hc, bind_ok]
        exact pMod_pos hm
      have hd2 : dot (xs.set i.toNat (xs[i.toNat] + 1)) cs = dot xs cs + c := by
        rw [dot_set hx hc]
        have : xs[i.toNat] + 1 - xs[i.toNat] = 1 := by omega
        rw [this, Int.one_mul]
      obtain ⟨xs', y5, y7, k1, k2⟩ := ih ((r - c) % minL cs) u (xs.set i.toNat (xs[i.toNat] + 1)) (some (.int i)) hu (by rw [List.length_set]; exact hl) (fun x hx => by
        rcases List.mem_or_eq_of_mem_set hx with z | z
        · exact h0 x z
        · have := h0 _ (List.getElem_mem hil); omega) (by omega) (by have := (Fo.least.key _ _ hu).2.nonneg W.lo; omega)
      exact ⟨xs', y5, y7, (whileL_go et (.inl eb)).trans k1, k2⟩
theorem pay_v (W : Coins cs) (h0 : 0 ≤ amount) (hh : amount < 100000000) : (¬ Pay cs amount ∧ F_pay A [rw_ k cs, .int amount] = .ok .non) ∨ (Pay cs amount ∧ ∃ xs : List Int, F_pay A [rw_ k cs, .int amount] = .ok (.lst (xs.map .int)) ∧ xs.length = cs.length ∧ (∀ x ∈ xs, 0 ≤ x) ∧ dot xs cs = amount) := by
  obtain ⟨l, d, e, Fo⟩ := least_v (A := A) (k := k) W
  have hm := Fo.least.m_pos
  have hm2 := W.hi _ Fo.least.mem
  have hs : F_pay A [rw_ k cs, .int amount] = bodyO (B_pay A [some (rw_ k cs), some (.int amount), none, none, none, none, none, none]) := rfl
  have e1 : dUnp (gTupP 2 (gConsP (gN 2) (gConsP (gN 3) gNilP))) (bC (aCons (eV 0) aNil) (F_least_amounts A)) [some (rw_ k cs), some (.int amount), none, none, none, none, none, none] = .next [some (rw_ k cs), some (.int amount), some (.dic (toD l)), some (.dic (toD d)), none, none, none, none] := unp_ok (p := .tup [.dic (toD l), .dic (toD d)]) e rfl
  have e2 : dSet 4 (bC (aCons (eV 0) aNil) (pBest min)) [some (rw_ k cs), some (.int amount), some (.dic (toD l)), some (.dic (toD d)), none, none, none, none] = .next (penv k cs amount l d none none none) := set_ok (p := .int (minL cs)) (min_v W)
  have e3 : dSet 5 (b2 (eV 1) (eV 4) pMod) (penv k cs amount l d none none none) = .next (penv k cs amount l d (some (.int (amount % minL cs))) none none) := set_ok (p := .int (amount % minL cs)) (pMod_pos hm)
  have et : ∀ b : Bool, (bOr (bT (b2 (eV 5) (eV 2) pDnotin)) (bT (b2 (b2 (eV 2) (eV 5) pDget) (eV 1) iGt))) (penv k cs amount l d (some (.int (amount % minL cs))) none none) = .ok b → _ := fun b h => if_ok (f := dRet (b1 (eC .non) pSc)) (g := .next) h
  have t0 : (bOr (bT (b2 (eV 5) (eV 2) pDnotin)) (bT (b2 (b2 (eV 2) (eV 5) pDget) (eV 1) iGt))) (penv k cs amount l d (some (.int (amount % minL cs))) none none) = .ok (match look l (amount % minL cs) with
      | none => true
      | some v => decide (amount < v)) := by
    show Rs.bind (Rs.bind (Rs.ok (PV.bl (!(valP (toD l) (.inl (amount % minL cs))).isSome))) isB) (fun b => if b = true then .ok true else Rs.bind (Rs.bind (ofO (valP (toD l) (.inl (amount % minL cs)))) fun x => iGt x (.int amount)) isB) = _
    rw [val_toD]
    cases look l (amount % minL cs) <;> rfl
  rw [hs]
  unfold B_pay
  rw [then_next e1, then_next e2, then_next e3]
  by_cases hp : Pay cs amount
  · refine .inr ⟨hp, ?_⟩
    obtain ⟨v, hv, hle⟩ := Fo.least.below hp
    rw [hv] at t0
    have t1 : (bOr (bT (b2 (eV 5) (eV 2) pDnotin)) (bT (b2 (b2 (eV 2) (eV 5) pDget) (eV 1) iGt))) (penv k cs amount l d (some (.int (amount % minL cs))) none none) = .ok false := by
      rw [t0]
      exact congrArg Rs.ok (decide_eq_false (by omega))
    rw [then_next (if_no t1)]
    have e4 : dSet 6 (b2 (eLst (aCons (eC (.int 0)) aNil)) (bC (aCons (eV 0) aNil) pLen) pRep) (penv k cs amount l d (some (.int (amount % minL cs))) none none) = .next (penv k cs amount l d (some (.int (amount % minL cs))) (some (.lst ((List.replicate cs.length (0 : Int)).map .int))) none) := by
      refine set_ok (p := .lst ((List.replicate cs.length (0 : Int)).map .int)) ?_
      show Rs.bind (pLen [rw_ k cs]) (fun y => pRep (.lst [.int 0]) y) = _
      rw [len_rw, bind_ok]
      have hf := W.few
      show (if -1000000 ≤ (cs.length : Int) ∧ (cs.length : Int) ≤ 1000000 ∧ 1 * (cs.length : Int).toNat ≤ 100000 then Rs.ok (PV.lst (List.replicate (cs.length : Int).toNat [PV.int 0]).flatten) else .bad) = _
      rw [if_pos (by omega)]
      congr 2
      have : ∀ n : Nat, (List.replicate n [PV.int 0]).flatten = (List.replicate n (0 : Int)).map PV.int := fun n => by
        induction n with
        | zero => rfl
        | succ n ih => rw [List.replicate_succ, List.flatten_cons, ih, List.replicate_succ]; rfl
      rw [this]
      rfl
    rw [then_next e4]
    obtain ⟨j, hj, _, hij⟩ := index_rw (k := k) Fo.least.mem
    have hjl : j < cs.length := (List.getElem?_eq_some_iff.mp hj).1
    have dv : minL cs ∣ amount - v := by
      have e := (Fo.least.key _ _ hv).1
      exact Int.dvd_of_emod_eq_zero (by rw [Int.sub_emod, e, Int.sub_self, Int.zero_emod])
    have e5 : dSub [0, 1, 2, 4, 5] [6] 6 (b2 (b2 (eV 1) (b2 (eV 2) (eV 5) pDget) iSub) (eV 4) pFdiv) (bIdx (eV 0) (eV 4) pIndex) (penv k cs amount l d (some (.int (amount % minL cs))) (some (.lst ((List.replicate cs.length (0 : Int)).map .int))) none) =
        .next (penv k cs amount l d (some (.int (amount % minL cs))) (some (.lst (((List.replicate cs.length (0 : Int)).set j ((amount - v) / minL cs)).map .int))) none) := by
      have v1 : (b2 (b2 (eV 1) (b2 (eV 2) (eV 5) pDget) iSub) (eV 4) pFdiv) (penv k cs amount l d (some (.int (amount % minL cs))) (some (.lst ((List.replicate cs.length (0 : Int)).map .int))) none) = .ok (.int ((amount - v) / minL cs)) := by
        show Rs.bind (Rs.bind (ofO (valP (toD l) (.inl (amount % minL cs)))) fun y => iSub (.int amount) y) (fun x => pFdiv x (.int (minL cs))) = _
        rw [val_toD, hv]
        exact pFdiv_pos hm (by omega)
      have v2 : (bIdx (eV 0) (eV 4) pIndex) (penv k cs amount l d (some (.int (amount % minL cs))) (some (.lst ((List.replicate cs.length (0 : Int)).map .int))) none) = .ok (.int (j : Nat)) := by
        have hrow : isRow (rw_ k cs) = true := by unfold rw_; cases k <;> rfl
        show (if isRow (rw_ k cs) = true then pIndex (rw_ k cs) (.int (minL cs)) else .bad) = _
        rw [if_pos hrow, hij]
      show outE (Rs.bind ((b2 (b2 (eV 1) (b2 (eV 2) (eV 5) pDget) iSub) (eV 4) pFdiv) _) fun x => Rs.bind ((bIdx (eV 0) (eV 4) pIndex) _) fun y => .ok (x, y)) _ _ = _
      rw [v1, bind_ok, v2, bind_ok, outE_ok]
      show (match ixN ((List.replicate cs.length (0 : Int)).map PV.int).length (j : Int) with
        | some j => if sep [0, 1, 2, 4, 5] [6] _ (away (.int ((amount - v) / minL cs))) = true then Out.next _ else .bad
        | none => .bad) = _
      have : ixN ((List.replicate cs.length (0 : Int)).map PV.int).length (j : Int) = some j := by
        unfold ixN
        rw [if_pos (by omega), if_pos (by simp; omega)]
        rfl
      rw [this]
      show Out.next _ = _
      rw [List.map_set]
      rfl
    rw [then_next e5]
    have h00 : (List.replicate cs.length (0 : Int))[j]? = some 0 := by rw [List.getElem?_replicate, if_pos hjl]
    have hdot : dot ((List.replicate cs.length (0 : Int)).set j ((amount - v) / minL cs)) cs + v = amount := by
      rw [dot_set h00 hj, dot_zero, Int.sub_zero, Int.ediv_mul_cancel dv]
      omega
    obtain ⟨xs', y5, y7, k1, k2, k3, k4⟩ := walk2 (k := k) (amount := amount) W Fo fuel (amount % minL cs) v _ none hv (by rw [List.length_set, List.length_replicate]) (fun x hx => by
      rcases List.mem_or_eq_of_mem_set hx with z | z
      · have := (List.mem_replicate.mp z).2; omega
      · rw [z]; exact Int.ediv_nonneg (by omega) (by omega)) hdot (by unfold fuel; omega)
    refine ⟨xs', ?_, k2, k3, k4⟩
    exact congrArg bodyO (then_next k1)
  · refine .inl ⟨hp, ?_⟩
    have t1 : (bOr (bT (b2 (eV 5) (eV 2) pDnotin)) (bT (b2 (b2 (eV 2) (eV 5) pDget) (eV 1) iGt))) (penv k cs amount l d (some (.int (amount % minL cs))) none none) = .ok true := by
      rw [t0]
      cases hv : look l (amount % minL cs) with
      | none => rfl
      | some v =>
        refine congrArg Rs.ok (decide_eq_true ?_)
        rcases Int.lt_or_le amount v with z | z
        · exact z
        · exact absurd (Fo.least.pay_iff.mpr ⟨v, hv, z⟩) hp
    have e4 : ifB (bOr (bT (b2 (eV 5) (eV 2) pDnotin)) (bT (b2 (b2 (eV 2) (eV 5) pDget) (eV 1) iGt))) (dRet (b1 (eC .non) pSc)) .next (penv k cs amount l d (some (.int (amount % minL cs))) none none) = .ret .non (penv k cs amount l d (some (.int (amount % minL cs))) none none) := if_yes t1
    exact congrArg bodyO (then_ret e4)
end
end Lh.P.Co
set_option Elab.async false
set_option linter.all false
set_option maxRecDepth 100000
set_option maxHeartbeats 2000000
/-! The law's own draws. -/
namespace Lh.P.Co
open PySem PySem.Spec PyProof.Rows L2 _root_.SX Lh.P Lh.P.B Lh.C
section
variable {A : Ad}
theorem cell_v (ns : List Int) (k : Nat) : ∃ i, F__law_cell A [.scr ns, .int (k : Nat)] = .ok (.int i) := by
  have hs : F__law_cell A [.scr ns, .int (k : Nat)] = bodyR (B__law_cell A [some (.scr ns), some (.int (k : Nat))]) := rfl
  rw [hs]
  unfold B__law_cell
  have et : bT (b2 (eV 1) (bC (aCons (eV 0) aNil) pLen) iLt) [some (.scr ns), some (.int (k : Nat))] = .ok (decide ((k : Int) < ns.length)) := rfl
  by_cases h : (k : Int) < ns.length
  · rw [decide_eq_true h] at et
    have hk : k < ns.length := by omega
    have e1 : ifB (bT (b2 (eV 1) (bC (aCons (eV 0) aNil) pLen) iLt)) (dRet (b2 (eV 0) (eV 1) pIx)) .next [some (.scr ns), some (.int (k : Nat))] = .ret (.int ns[k]) [some (.scr ns), some (.int (k : Nat))] := by
      refine (if_yes et).trans (ret_ok ?_)
      show ofO ((atI ns (k : Int)).map fun n => PV.int n) = _
      rw [atI_some (by omega) (x := ns[k]) (by rw [Int.toNat_natCast]; exact List.getElem?_eq_getElem hk)]
      rfl
    exact ⟨ns[k], congrArg bodyR (then_ret e1)⟩
  · rw [decide_eq_false h] at et
    have e1 : ifB (bT (b2 (eV 1) (bC (aCons (eV 0) aNil) pLen) iLt)) (dRet (b2 (eV 0) (eV 1) pIx)) .next [some (.scr ns), some (.int (k : Nat))] = .next [some (.scr ns), some (.int (k : Nat))] := if_no et
    exact ⟨0, congrArg bodyR (then_next e1)⟩
/-- drawn rows keep to their sizes -/
def Fits (row sizes : List Int) : Prop := row.length = sizes.length ∧ ∀ (j : Nat) (r s : Int), row[j]? = some r → sizes[j]? = some s → 0 ≤ r ∧ r < s
abbrev p18 : Env → Rs PV := b2 (eC (.int 10)) (eC (.int 18)) pPow
theorem p18_v (Γ : Env) : p18 Γ = .ok (.int 1000000000000000000) := by
  refine (b2_ok (x := .int 10) (y := .int 18) rfl rfl).trans ?_
  show (if (0 : Int) ≤ 18 ∧ (18 : Int) ≤ 1000 ∧ (-1000000000 : Int) < 10 ∧ (10 : Int) < 1000000000 then (Rs.ok (PV.int ((10 : Int) ^ (18 : Int).toNat)) : Rs PV) else Rs.bad) = _
  rw [if_pos (by omega)]
  rfl
abbrev rowB : Env → Out := ifB (bT (b2 (eV 0) p18 iGe))
 (thenB (dMt [1, 3, 4] [2] 2 (aCons (b2 (bC (aCons (eV 3) aNil) pInt) (b2 (eV 1) (eV 4) pIx) pMod) aNil) mAppend)
 (dSet 3 (b2 (eV 3) (b2 (eV 1) (eV 4) pIx) pFdiv)))
 (thenB (dSet 5 (b2 (bC (aCons (b2 (b2 (eV 0) (b2 (eC (.int 7919)) (eV 4) pMul) pAdd) (eC (.int 13)) pAdd) aNil) pInt) (eC (.int 2147483647)) pMod))
 (thenB (dSet 5 (b2 (bC (aCons (b2 (eV 5) (b2 (eV 5) (eC (.int 48271)) pAdd) pMul) aNil) pInt) (eC (.int 2147483629)) pMod))
 (thenB (dSet 5 (b2 (bC (aCons (b2 (b2 (eV 5) (b2 (eV 5) (eC (.int 69621)) pAdd) pMul) (b2 (eC (.int 31)) (eV 4) pMul) pAdd) aNil) pInt) (eC (.int 2147483647)) pMod))
 (dMt [1, 4, 5] [2] 2 (aCons (b2 (bC (aCons (b2 (eV 5) (eC (.int 9)) pFdiv) aNil) pInt) (b2 (eV 1) (eV 4) pIx) pMod) aNil) mAppend))))
theorem append_v {V O : List Nat} {i : Nat} {fa : Env → Rs PV} {Γ : Env} {xs : List PV} {z : Int} (hi : Γ[i]? = some (some (.lst xs))) (hf : fa Γ = .ok (.int z)) (hl : xs.length < 100000) (hsep : sep V O Γ (awayS [.int z]) = true) : dMt V O i (aCons fa aNil) mAppend Γ = .next (Γ.set i (some (.lst (xs ++ [.int z])))) := by
  unfold dMt
  rw [hi]
  show outE (aCons fa aNil Γ) Γ _ = _
  have : aCons fa aNil Γ = .ok [.int z] := by
    show Rs.bind (fa Γ) _ = _
    rw [hf]; rfl
  rw [this, outE_ok]
  show (match (if xs.length < 100000 then some (xs ++ [PV.int z]) else none) with
    | some ys => if sep V O Γ (awayS [.int z]) then Out.next (Γ.set i (some (.lst ys))) else .bad
    | none => .bad) = _
  rw [if_pos hl]
  exact if_pos hsep
theorem row_turn {cell : Int} {sizes row : List Int} {rest : Int} {x5 : Option PV} {i : Nat} {s : Int} (hs : sizes[i]? = some s) (sp : 0 < s) (s2 : s < 1073741824) (hl : row.length < 100000) :
    ∃ e rest' x5', 0 ≤ e ∧ e < s ∧ rowB [some (.int cell), some (.lst (sizes.map .int)), some (.lst (row.map .int)), some (.int rest), some (.int (i : Nat)), x5] = .next [some (.int cell), some (.lst (sizes.map .int)), some (.lst ((row ++ [e]).map .int)), some (.int rest'), some (.int (i : Nat)), x5'] := by
  have hix : pIx (.lst (sizes.map .int)) (.int (i : Nat)) = .ok (.int s) := ix_lst (by omega) (by rw [Int.toNat_natCast, List.getElem?_map, hs]; rfl)
  have et : ∀ (x5 : Option PV), bT (b2 (eV 0) p18 iGe) [some (.int cell), some (.lst (sizes.map .int)), some (.lst (row.map .int)), some (.int rest), some (.int (i : Nat)), x5] = .ok (decide ((1000000000000000000 : Int) ≤ cell)) := fun x5 => by
    exact bT_ok ((b2_ok (x := .int cell) rfl (p18_v _)).trans rfl)
  have hl2 : (row.map PV.int).length < 100000 := by rw [List.length_map]; exact hl
  by_cases h : (1000000000000000000 : Int) ≤ cell
  · have et := et x5
    rw [decide_eq_true h] at et
    refine ⟨rest % s, rest / s, x5, Int.emod_nonneg _ (by omega), Int.emod_lt_of_pos _ sp, (if_yes et).trans ?_⟩
    have v1 : (b2 (bC (aCons (eV 3) aNil) pInt) (b2 (eV 1) (eV 4) pIx) pMod) [some (.int cell), some (.lst (sizes.map .int)), some (.lst (row.map .int)), some (.int rest), some (.int (i : Nat)), x5] = .ok (.int (rest % s)) := by
      exact (b2_ok (x := .int rest) rfl ((b2_ok rfl rfl).trans hix)).trans (pMod_pos sp)
    have e1 := append_v (V := [1, 3, 4]) (O := [2]) (i := 2) (fa := b2 (bC (aCons (eV 3) aNil) pInt) (b2 (eV 1) (eV 4) pIx) pMod) (Γ := [some (.int cell), some (.lst (sizes.map .int)), some (.lst (row.map .int)), some (.int rest), some (.int (i : Nat)), x5]) rfl v1 hl2 rfl
    refine (then_next e1).trans ?_
    have v2 : (b2 (eV 3) (b2 (eV 1) (eV 4) pIx) pFdiv) ([some (.int cell), some (.lst (sizes.map .int)), some (.lst (row.map .int)), some (.int rest), some (.int (i : Nat)), x5].set 2 (some (.lst (row.map PV.int ++ [.int (rest % s)])))) = .ok (.int (rest / s)) := by
      exact (b2_ok (x := .int rest) rfl ((b2_ok rfl rfl).trans hix)).trans (pFdiv_pos sp s2)
    refine (set_ok v2).trans ?_
    rw [List.map_append]
    rfl
  · have et := et x5
    rw [decide_eq_false h] at et
    -- the three draws
    have m1 : ∃ a : Int, 0 ≤ a ∧ a < 2147483647 ∧ dSet 5 (b2 (bC (aCons (b2 (b2 (eV 0) (b2 (eC (.int 7919)) (eV 4) pMul) pAdd) (eC (.int 13)) pAdd) aNil) pInt) (eC (.int 2147483647)) pMod) [some (.int cell), some (.lst (sizes.map .int)), some (.lst (row.map .int)), some (.int rest), some (.int (i : Nat)), x5] = .next [some (.int cell), some (.lst (sizes.map .int)), some (.lst (row.map .int)), some (.int rest), some (.int (i : Nat)), some (.int a)] := by
      refine ⟨(cell + 7919 * (i : Nat) + 13) % 2147483647, Int.emod_nonneg _ (by omega), Int.emod_lt_of_pos _ (by omega), set_ok (p := .int _) ?_⟩
      have v : b2 (eC (.int 7919)) (eV 4) pMul [some (.int cell), some (.lst (sizes.map .int)), some (.lst (row.map .int)), some (.int rest), some (.int (i : Nat)), x5] = .ok (.int (7919 * (i : Nat))) := (b2_ok (x := .int 7919) (y := .int (i : Nat)) rfl rfl).trans (pMul_lo (by omega))
      have w : bC (aCons (b2 (b2 (eV 0) (b2 (eC (.int 7919)) (eV 4) pMul) pAdd) (eC (.int 13)) pAdd) aNil) pInt [some (.int cell), some (.lst (sizes.map .int)), some (.lst (row.map .int)), some (.int rest), some (.int (i : Nat)), x5] = .ok (.int (cell + 7919 * (i : Nat) + 13)) := bC1_ok (x := .int (cell + 7919 * (i : Nat) + 13)) (b2_ok (x := .int (cell + 7919 * (i : Nat))) (y := .int 13) (b2_ok (x := .int cell) rfl v) rfl)
      exact (b2_ok w rfl).trans (pMod_pos (by omega))
    obtain ⟨a, a0, a1, e1⟩ := m1
    have m2 : ∃ b : Int, 0 ≤ b ∧ b < 2147483629 ∧ dSet 5 (b2 (bC (aCons (b2 (eV 5) (b2 (eV 5) (eC (.int 48271)) pAdd) pMul) aNil) pInt) (eC (.int 2147483629)) pMod) [some (.int cell), some (.lst (sizes.map .int)), some (.lst (row.map .int)), some (.int rest), some (.int (i : Nat)), some (.int a)] = .next [some (.int cell), some (.lst (sizes.map .int)), some (.lst (row.map .int)), some (.int rest), some (.int (i : Nat)), some (.int b)] := by
      refine ⟨(a * (a + 48271)) % 2147483629, Int.emod_nonneg _ (by omega), Int.emod_lt_of_pos _ (by omega), set_ok (p := .int _) ?_⟩
      exact (b2_ok (bC1_ok ((b2_ok (x := .int a) (y := .int (a + 48271)) rfl rfl).trans (pMul_lo (by omega)))) rfl).trans (pMod_pos (by omega))
    obtain ⟨b, b0, b1', e2⟩ := m2
    have m3 : ∃ c : Int, 0 ≤ c ∧ c < 2147483647 ∧ dSet 5 (b2 (bC (aCons (b2 (b2 (eV 5) (b2 (eV 5) (eC (.int 69621)) pAdd) pMul) (b2 (eC (.int 31)) (eV 4) pMul) pAdd) aNil) pInt) (eC (.int 2147483647)) pMod) [some (.int cell), some (.lst (sizes.map .int)), some (.lst (row.map .int)), some (.int rest), some (.int (i : Nat)), some (.int b)] = .next [some (.int cell), some (.lst (sizes.map .int)), some (.lst (row.map .int)), some (.int rest), some (.int (i : Nat)), some (.int c)] := by
      refine ⟨(b * (b + 69621) + 31 * (i : Nat)) % 2147483647, Int.emod_nonneg _ (by omega), Int.emod_lt_of_pos _ (by omega), set_ok (p := .int _) ?_⟩
      have v : b2 (eV 5) (b2 (eV 5) (eC (.int 69621)) pAdd) pMul [some (.int cell), some (.lst (sizes.map .int)), some (.lst (row.map .int)), some (.int rest), some (.int (i : Nat)), some (.int b)] = .ok (.int (b * (b + 69621))) := (b2_ok (x := .int b) (y := .int (b + 69621)) rfl rfl).trans (pMul_lo (by omega))
      have u : b2 (eC (.int 31)) (eV 4) pMul [some (.int cell), some (.lst (sizes.map .int)), some (.lst (row.map .int)), some (.int rest), some (.int (i : Nat)), some (.int b)] = .ok (.int (31 * (i : Nat))) := (b2_ok (x := .int 31) (y := .int (i : Nat)) rfl rfl).trans (pMul_lo (by omega))
      have w : bC (aCons (b2 (b2 (eV 5) (b2 (eV 5) (eC (.int 69621)) pAdd) pMul) (b2 (eC (.int 31)) (eV 4) pMul) pAdd) aNil) pInt [some (.int cell), some (.lst (sizes.map .int)), some (.lst (row.map .int)), some (.int rest), some (.int (i : Nat)), some (.int b)] = .ok (.int (b * (b + 69621) + 31 * (i : Nat))) := bC1_ok (x := .int (b * (b + 69621) + 31 * (i : Nat))) (b2_ok v u)
      exact (b2_ok w rfl).trans (pMod_pos (by omega))
    obtain ⟨c, c0, c1, e3⟩ := m3
    refine ⟨(c / 9) % s, rest, some (.int c), Int.emod_nonneg _ (by omega), Int.emod_lt_of_pos _ sp, (if_no et).trans ?_⟩
    refine (then_next e1).trans ((then_next e2).trans ((then_next e3).trans ?_))
    have v1 : (b2 (bC (aCons (b2 (eV 5) (eC (.int 9)) pFdiv) aNil) pInt) (b2 (eV 1) (eV 4) pIx) pMod) [some (.int cell), some (.lst (sizes.map .int)), some (.lst (row.map .int)), some (.int rest), some (.int (i : Nat)), some (.int c)] = .ok (.int ((c / 9) % s)) := by
      exact (b2_ok (bC1_ok ((b2_ok (x := .int c) (y := .int 9) rfl rfl).trans (pFdiv_pos (by omega) (by omega)))) ((b2_ok rfl rfl).trans hix)).trans (pMod_pos sp)
    have e4 := append_v (V := [1, 4, 5]) (O := [2]) (i := 2) (Γ := [some (.int cell), some (.lst (sizes.map .int)), some (.lst (row.map .int)), some (.int rest), some (.int (i : Nat)), some (.int c)]) rfl v1 hl2 rfl
    refine e4.trans ?_
    rw [List.map_append]
    rfl
theorem row_loop {cell : Int} {sizes : List Int} (hs : ∀ s ∈ sizes, 0 < s ∧ s < 1073741824) (hz : sizes.length < 100000) : ∀ (c i : Nat) (row : List Int) (rest : Int) (x4 x5 : Option PV), i + c = sizes.length → row.length = i →
    (∀ (j : Nat) (r s : Int), row[j]? = some r → sizes[j]? = some s → 0 ≤ r ∧ r < s) →
    ∃ row' rest' x4' x5', forL (gN 4) rowB ((List.range' i c).map fun j : Nat => PV.int (0 + (j : Int))) [some (.int cell), some (.lst (sizes.map .int)), some (.lst (row.map .int)), some (.int rest), x4, x5] = .next [some (.int cell), some (.lst (sizes.map .int)), some (.lst (row'.map .int)), some (.int rest'), x4', x5'] ∧ Fits row' sizes
  | 0, i, row, rest, x4, x5, h1, h2, h3 => ⟨row, rest, x4, x5, rfl, by omega, h3⟩
  | c + 1, i, row, rest, x4, x5, h1, h2, h3 => by
    have hi : i < sizes.length := by omega
    have hsi := hs sizes[i] (List.getElem_mem hi)
    obtain ⟨e, rest', x5', e0, e1, e2⟩ := row_turn (cell := cell) (sizes := sizes) (row := row) (rest := rest) (x5 := x5) (i := i) (List.getElem?_eq_getElem hi) hsi.1 hsi.2 (by omega)
    obtain ⟨row', rest2, x4', x52, k1, k2⟩ := row_loop hs hz c (i + 1) (row ++ [e]) rest' (some (.int (i : Nat))) x5' (by omega) (by simp; omega) (fun j r s hr hs' => by
      by_cases hj : j < row.length
      · rw [List.getElem?_append_left hj] at hr
        exact h3 j r s hr hs'
      · have hj2 := (List.getElem?_eq_some_iff.mp hr).1
        rw [List.length_append, List.length_singleton] at hj2
        have : j = row.length := by omega
        subst this
        rw [List.getElem?_append_right (Nat.le_refl _)] at hr
        simp at hr
        rw [h2, List.getElem?_eq_getElem hi] at hs'
        cases hs'
        omega)
    refine ⟨row', rest2, x4', x52, ?_, k2⟩
    rw [List.range'_succ, List.map_cons]
    have z : (0 : Int) + (i : Nat) = (i : Nat) := Int.zero_add _
    rw [z]
    exact (forL_next (Γ1 := [some (.int cell), some (.lst (sizes.map .int)), some (.lst (row.map .int)), some (.int rest), some (.int (i : Nat)), x5]) rfl (.inl e2)).trans k1
theorem row_v {cell : Int} {sizes : List Int} (hs : ∀ s ∈ sizes, 0 < s ∧ s < 1073741824) (hz : sizes.length < 100000) : ∃ row, F__law_row A [.int cell, .lst (sizes.map .int)] = .ok (.lst (row.map .int)) ∧ Fits row sizes := by
  have hr : F__law_row A [.int cell, .lst (sizes.map .int)] = bodyR (B__law_row A [some (.int cell), some (.lst (sizes.map .int)), none, none, none, none]) := rfl
  rw [hr]
  unfold B__law_row
  have e1 : dSet 2 (eLst aNil) [some (.int cell), some (.lst (sizes.map .int)), none, none, none, none] = .next [some (.int cell), some (.lst (sizes.map .int)), some (.lst (([] : List Int).map .int)), none, none, none] := rfl
  rw [then_next e1]
  have e2 : dSet 3 (b2 (eV 0) p18 iSub) [some (.int cell), some (.lst (sizes.map .int)), some (.lst (([] : List Int).map .int)), none, none, none] = .next [some (.int cell), some (.lst (sizes.map .int)), some (.lst (([] : List Int).map .int)), some (.int (cell - 1000000000000000000)), none, none] := by
    refine set_ok (p := .int (cell - 1000000000000000000)) ?_
    exact b2_ok (x := .int cell) rfl (p18_v _)
  rw [then_next e2]
  obtain ⟨row, rest', x4', x5', k1, k2⟩ := row_loop (cell := cell) hs hz sizes.length 0 [] (cell - 1000000000000000000) none none (by omega) rfl (fun j r s h _ => by simp at h)
  refine ⟨row, ?_, k2⟩
  have e3 : (iR1 (aCons (bC (aCons (eV 1) aNil) pLen) aNil)) [some (.int cell), some (.lst (sizes.map .int)), some (.lst (([] : List Int).map .int)), some (.int (cell - 1000000000000000000)), none, none] = .ok ((List.range' 0 sizes.length).map fun j : Nat => PV.int (0 + (j : Int))) := by
    show (if -1000000000 ≤ (((sizes.map PV.int).length : Nat) : Int) ∧ (((sizes.map PV.int).length : Nat) : Int) ≤ 1000000000 then Rs.ok (rgP 0 (((sizes.map PV.int).length : Nat) : Int).toNat) else .bad) = _
    rw [List.length_map, if_pos (by omega), Int.toNat_natCast]
    unfold rgP
    rw [List.range_eq_range']
  exact congrArg bodyR (then_next ((for_ok e3).trans k1))
theorem Fits.at_ {row sizes : List Int} (F : Fits row sizes) {j : Nat} {s : Int} (h : sizes[j]? = some s) : ∃ r, row[j]? = some r ∧ 0 ≤ r ∧ r < s := by
  have hj : j < row.length := by rw [F.1]; exact (List.getElem?_eq_some_iff.mp h).1
  exact ⟨row[j], List.getElem?_eq_getElem hj, F.2 j _ s (List.getElem?_eq_getElem hj) h⟩
/-! ### whole numbers -/
theorem is_int_v (i : Int) : F__law_is_integer A [.int i] = .ok (.bl true) := by
  show bodyR (dRet (vAnd (b1 (eV 0) (pIsT "int")) (vNot (b1 (eV 0) (pIsT "bool")))) [some (.int i)]) = _
  have : (vAnd (b1 (eV 0) (pIsT "int")) (vNot (b1 (eV 0) (pIsT "bool")))) [some (.int i)] = .ok (.bl true) := rfl
  exact congrArg bodyR (ret_ok this)
theorem ints_v (xs : List Int) (hl : xs.length ≤ 100000) : F__law_integers A [.lst (xs.map .int)] = .ok (.bl true) := by
  have hr : F__law_integers A [.lst (xs.map .int)] = bodyR (B__law_integers A [some (.lst (xs.map .int)), none]) := rfl
  rw [hr]
  unfold B__law_integers
  have et : bNot (bT (b1 (eV 0) (pIsT "list"))) [some (.lst (xs.map .int)), none] = .ok false := by
    show Rs.bind (Rs.bind (pIsT "list" (.lst (xs.map .int))) isB) _ = _
    rfl
  have e1 : ifB (bNot (bT (b1 (eV 0) (pIsT "list")))) (dRet (eC (.bl false))) .next [some (.lst (xs.map .int)), none] = .next [some (.lst (xs.map .int)), none] := if_no et
  rw [then_next e1]
  have e2 : (bLc [1] (iAny (eV 0)) (gN 1) yesB (bC (aCons (eV 1) aNil) (F__law_is_integer A))) [some (.lst (xs.map .int)), none] = .ok (.lst (xs.map fun _ => PV.bl true)) := by
    show lcL [1] (gN 1) yesB _ _ (xs.map .int) [] = _
    rw [lcL_map (ix := PV.int) (el := fun _ => PV.bl true) xs [] (fun x _ => ⟨[some (.lst (xs.map .int)), some (.int x)], rfl, (bC1_ok (x := .int x) rfl).trans (is_int_v (A := A) x)⟩) (by simpa using hl)]
    rfl
  have e3 : (bC (aCons (bLc [1] (iAny (eV 0)) (gN 1) yesB (bC (aCons (eV 1) aNil) (F__law_is_integer A))) aNil) pAll) [some (.lst (xs.map .int)), none] = .ok (.bl true) := by
    rw [bC1_ok e2]
    have e : (xs.map fun _ => PV.bl true) = (xs.map fun _ => true).map PV.bl := by rw [List.map_map]; rfl
    rw [e, all_bls]
    have : ((xs.map fun _ => true).all _root_.id) = true := by rw [List.all_map]; exact List.all_eq_true.mpr fun _ _ => rfl
    rw [this]
  exact congrArg bodyR (ret_ok e3)
theorem handed_v (cs : List Int) (k : Bool) : F__law_handed A [.lst (cs.map .int), .bl k] = .ok (rw_ k cs) := by
  cases k <;> rfl
end
end Lh.P.Co
set_option Elab.async false
set_option linter.all false
set_option maxRecDepth 100000
set_option maxHeartbeats 2000000
/-! The coins as they are drawn; their measure; what the units can pay. -/
namespace Lh.P.Co
open PySem PySem.Spec PyProof.Rows L2 _root_.SX Lh.P Lh.P.B Lh.C
section
variable {A : Ad}
theorem sub_v {V O : List Nat} {i : Nat} {fv fi : Env → Rs PV} {Γ : Env} {xs : List Int} {z j : Int} (hi : Γ[i]? = some (some (.lst (xs.map .int)))) (h1 : fv Γ = .ok (.int z)) (h2 : fi Γ = .ok (.int j)) (h0 : 0 ≤ j) (hl : j < xs.length) (hs : sep V O Γ (away (.int z)) = true) :
    dSub V O i fv fi Γ = .next (Γ.set i (some (.lst ((xs.set j.toNat z).map .int)))) := by
  unfold dSub
  rw [hi]
  show outE (Rs.bind (fv Γ) fun x => Rs.bind (fi Γ) fun y => .ok (x, y)) Γ _ = _
  rw [h1, bind_ok, h2, bind_ok, outE_ok]
  show (match ixN (xs.map PV.int).length j with
    | some j => if sep V O Γ (away (.int z)) = true then Out.next (Γ.set i (some (.lst ((xs.map PV.int).set j (.int z))))) else .bad
    | none => .bad) = _
  have : ixN (xs.map PV.int).length j = some j.toNat := by
    unfold ixN
    rw [if_pos h0, if_pos (by rw [List.length_map]; exact hl)]
  rw [this, List.map_set]
  exact if_pos hs
/-- coins before they are multiplied -/
def Few (cs : List Int) : Prop := cs ≠ [] ∧ cs.length ≤ 7 ∧ ∀ c ∈ cs, 1 ≤ c ∧ c ≤ 60
theorem Few.set {cs : List Int} (h : Few cs) {j : Nat} {z : Int} (hz : 1 ≤ z ∧ z ≤ 60) : Few (cs.set j z) := by
  refine ⟨fun e => h.1 (by simpa using e), by rw [List.length_set]; exact h.2.1, fun c hc => ?_⟩
  rcases List.mem_or_eq_of_mem_set hc with z' | rfl
  · exact h.2.2 c z'
  · exact hz
theorem ix_at {xs : List Int} {j r : Int} (h0 : 0 ≤ j) (h : xs[j.toNat]? = some r) : pIx (.lst (xs.map .int)) (.int j) = .ok (.int r) := ix_lst h0 (by rw [List.getElem?_map, h]; rfl)
abbrev cenv (one two : Int) (row ch : List Int) (x4 x5 x6 x7 : Option PV) : Env := [some (.int one), some (.int two), some (.lst (row.map .int)), some (.lst (ch.map .int)), x4, x5, x6, x7]
theorem coins_v (one two : Int) : ∃ cs k, F__law_coins A [.int one, .int two] = .ok (.tup [.lst (cs.map .int), .bl k]) ∧ Coins cs := by
  have hs : F__law_coins A [.int one, .int two] = bodyR (B__law_coins A [some (.int one), some (.int two), none, none, none, none, none, none]) := rfl
  obtain ⟨row, r1, r2⟩ := row_v (A := A) (cell := one) (sizes := [6, 20, 20, 20, 20, 20, 20]) (by decide) (by decide)
  obtain ⟨ch, c1, c2⟩ := row_v (A := A) (cell := two) (sizes := [6, 6, 60, 6, 6, 6, 6]) (by decide) (by decide)
  obtain ⟨n0, hn0, n00, n01⟩ := r2.at_ (j := 0) rfl
  obtain ⟨a0, ha0, a00, a01⟩ := c2.at_ (j := 0) rfl
  obtain ⟨a1, ha1, a10, a11⟩ := c2.at_ (j := 1) rfl
  obtain ⟨a2, ha2, a20, a21⟩ := c2.at_ (j := 2) rfl
  obtain ⟨a3, ha3, a30, a31⟩ := c2.at_ (j := 3) rfl
  obtain ⟨a4, ha4, a40, a41⟩ := c2.at_ (j := 4) rfl
  obtain ⟨a5, ha5, a50, a51⟩ := c2.at_ (j := 5) rfl
  obtain ⟨a6, ha6, a60, a61⟩ := c2.at_ (j := 6) rfl
  rw [hs]
  unfold B__law_coins
  have e1 : dSet 2 (bC (aCons (eV 0) (aCons (eLst (aCons (eC (.int 6)) (aCons (eC (.int 20)) (aCons (eC (.int 20)) (aCons (eC (.int 20)) (aCons (eC (.int 20)) (aCons (eC (.int 20)) (aCons (eC (.int 20)) aNil)))))))) aNil)) (F__law_row A)) [some (.int one), some (.int two), none, none, none, none, none, none] = .next [some (.int one), some (.int two), some (.lst (row.map .int)), none, none, none, none, none] :=
    set_ok ((bC2_ok (x := .int one) (y := .lst (([6, 20, 20, 20, 20, 20, 20] : List Int).map .int)) rfl rfl).trans r1)
  rw [then_next e1]
  have e2 : dSet 3 (bC (aCons (eV 1) (aCons (eLst (aCons (eC (.int 6)) (aCons (eC (.int 6)) (aCons (eC (.int 60)) (aCons (eC (.int 6)) (aCons (eC (.int 6)) (aCons (eC (.int 6)) (aCons (eC (.int 6)) aNil)))))))) aNil)) (F__law_row A)) [some (.int one), some (.int two), some (.lst (row.map .int)), none, none, none, none, none] = .next (cenv one two row ch none none none none) :=
    set_ok ((bC2_ok (x := .int two) (y := .lst (([6, 6, 60, 6, 6, 6, 6] : List Int).map .int)) rfl rfl).trans c1)
  rw [then_next e2]
  -- the coins
  have get : ∀ i : Nat, i < (1 + n0).toNat → ∃ r, row[1 + i]? = some r ∧ 0 ≤ r ∧ r < 20 := fun i hi => by
    have : i = 0 ∨ i = 1 ∨ i = 2 ∨ i = 3 ∨ i = 4 ∨ i = 5 := by omega
    rcases this with rfl | rfl | rfl | rfl | rfl | rfl <;> exact r2.at_ rfl
  let el : Nat → Int := fun i => 1 + (row[1 + i]?).getD 0
  let cs1 : List Int := (List.range (1 + n0).toNat).map el
  have f1 : Few cs1 := by
    refine ⟨fun e => ?_, ?_, fun c hc => ?_⟩
    · have := congrArg List.length e
      simp [cs1] at this
      omega
    · simp [cs1]; omega
    · obtain ⟨i, hi, rfl⟩ := List.mem_map.mp hc
      obtain ⟨r, h1, h2, h3⟩ := get i (List.mem_range.mp hi)
      show 1 ≤ 1 + (row[1 + i]?).getD 0 ∧ 1 + (row[1 + i]?).getD 0 ≤ 60
      rw [h1]
      show 1 ≤ 1 + r ∧ 1 + r ≤ 60
      omega
  have e3 : dSet 4 (bLc [5] (iR1 (aCons (b2 (eC (.int 1)) (b2 (eV 2) (eC (.int 0)) pIx) pAdd) aNil)) (gN 5) yesB (b2 (eC (.int 1)) (b2 (eV 2) (b2 (eC (.int 1)) (eV 5) pAdd) pIx) pAdd)) (cenv one two row ch none none none none) = .next (cenv one two row ch (some (.lst (cs1.map .int))) none none none) := by
    refine set_ok (p := .lst (cs1.map .int)) ?_
    have hi : (b2 (eC (.int 1)) (b2 (eV 2) (eC (.int 0)) pIx) pAdd) (cenv one two row ch none none none none) = .ok (.int (1 + n0)) := b2_ok (x := .int 1) rfl ((b2_ok (x := .lst (row.map .int)) (y := .int 0) rfl rfl).trans (ix_at (by omega) hn0))
    have hr : (iR1 (aCons (b2 (eC (.int 1)) (b2 (eV 2) (eC (.int 0)) pIx) pAdd) aNil)) (cenv one two row ch none none none none) = .ok ((List.range (1 + n0).toNat).map fun i : Nat => PV.int (0 + (i : Int))) := by
      show Rs.bind (Rs.bind ((b2 (eC (.int 1)) (b2 (eV 2) (eC (.int 0)) pIx) pAdd) _) fun x => Rs.bind (Rs.ok []) fun xs => .ok (x :: xs)) pRg1 = _
      rw [hi]
      show (if -1000000000 ≤ 1 + n0 ∧ 1 + n0 ≤ 1000000000 then Rs.ok (rgP 0 (1 + n0).toNat) else .bad) = _
      rw [if_pos (by omega)]
      rfl
    show Rs.bind ((iR1 (aCons (b2 (eC (.int 1)) (b2 (eV 2) (eC (.int 0)) pIx) pAdd) aNil)) _) (fun ps => lcL [5] (gN 5) yesB _ _ ps []) = _
    rw [hr, bind_ok, lcL_map (ix := fun i : Nat => PV.int (0 + (i : Int))) (el := fun i => PV.int (el i)) _ [] (fun i hi => ⟨cenv one two row ch none (some (.int (0 + (i : Int)))) none none, rfl, ?_⟩) (by simp; omega)]
    · simp [cs1]
    · obtain ⟨r, h1, h2, h3⟩ := get i (List.mem_range.mp hi)
      have : el i = 1 + r := by show 1 + (row[1 + i]?).getD 0 = _; rw [h1]; rfl
      rw [this]
      refine b2_ok (x := .int 1) (y := .int r) rfl ?_
      refine (b2_ok (x := .lst (row.map .int)) (y := .int (1 + (0 + (i : Int)))) rfl rfl).trans (ix_at (by omega) ?_)
      have : (1 + (0 + (i : Int))).toNat = 1 + i := by omega
      rw [this]; exact h1
  rw [then_next e3]
  have step1 : ∃ cs2, Few cs2 ∧ ifB (bT (b2 (b2 (eV 3) (eC (.int 0)) pIx) (eC (.int 0)) pEq))
      (dSub [3, 4] [4] 4 (b2 (eC (.int 1)) (b2 (eV 3) (eC (.int 2)) pIx) pAdd) (b2 (bC (aCons (b2 (eV 3) (eC (.int 1)) pIx) aNil) pInt) (bC (aCons (eV 4) aNil) pLen) pMod))
      .next (cenv one two row ch (some (.lst (cs1.map .int))) none none none) = .next (cenv one two row ch (some (.lst (cs2.map .int))) none none none) := by
    have et : bT (b2 (b2 (eV 3) (eC (.int 0)) pIx) (eC (.int 0)) pEq) (cenv one two row ch (some (.lst (cs1.map .int))) none none none) = .ok (decide (a0 = 0)) :=
      bT_ok ((b2_ok (x := .int a0) (y := .int 0) ((b2_ok (x := .lst (ch.map .int)) (y := .int 0) rfl rfl).trans (ix_at (by omega) ha0)) rfl).trans (pEq_int _ _))
    by_cases h : a0 = 0
    · rw [decide_eq_true h] at et
      have hl : 0 < cs1.length := List.length_pos_iff.mpr f1.1
      have v1 : (b2 (eC (.int 1)) (b2 (eV 3) (eC (.int 2)) pIx) pAdd) (cenv one two row ch (some (.lst (cs1.map .int))) none none none) = .ok (.int (1 + a2)) := b2_ok (x := .int 1) rfl ((b2_ok (x := .lst (ch.map .int)) (y := .int 2) rfl rfl).trans (ix_at (by omega) ha2))
      have v2 : (b2 (bC (aCons (b2 (eV 3) (eC (.int 1)) pIx) aNil) pInt) (bC (aCons (eV 4) aNil) pLen) pMod) (cenv one two row ch (some (.lst (cs1.map .int))) none none none) = .ok (.int (a1 % cs1.length)) := by
        have u : bC (aCons (b2 (eV 3) (eC (.int 1)) pIx) aNil) pInt (cenv one two row ch (some (.lst (cs1.map .int))) none none none) = .ok (.int a1) := bC1_ok (x := .int a1) ((b2_ok (x := .lst (ch.map .int)) (y := .int 1) rfl rfl).trans (ix_at (by omega) ha1))
        have w : bC (aCons (eV 4) aNil) pLen (cenv one two row ch (some (.lst (cs1.map .int))) none none none) = .ok (.int cs1.length) := (bC1_ok (x := .lst (cs1.map .int)) rfl).trans (len_rw false cs1)
        exact (b2_ok u w).trans (pMod_pos (by omega))
      refine ⟨cs1.set (a1 % cs1.length).toNat (1 + a2), f1.set (by omega), (if_yes et).trans ?_⟩
      exact sub_v (xs := cs1) rfl v1 v2 (Int.emod_nonneg _ (by omega)) (Int.emod_lt_of_pos _ (by omega)) rfl
    · rw [decide_eq_false h] at et
      exact ⟨cs1, f1, if_no et⟩
  obtain ⟨cs2, f2, e4⟩ := step1
  rw [then_next e4]
  have step2 : ∃ cs3, Few cs3 ∧ ifB (bT (b2 (b2 (eV 3) (eC (.int 0)) pIx) (eC (.int 1)) pEq))
      (dSub [3, 4] [4] 4 (b2 (eV 4) (b2 (bC (aCons (b2 (eV 3) (eC (.int 4)) pIx) aNil) pInt) (bC (aCons (eV 4) aNil) pLen) pMod) pIx) (b2 (bC (aCons (b2 (eV 3) (eC (.int 3)) pIx) aNil) pInt) (bC (aCons (eV 4) aNil) pLen) pMod))
      .next (cenv one two row ch (some (.lst (cs2.map .int))) none none none) = .next (cenv one two row ch (some (.lst (cs3.map .int))) none none none) := by
    have et : bT (b2 (b2 (eV 3) (eC (.int 0)) pIx) (eC (.int 1)) pEq) (cenv one two row ch (some (.lst (cs2.map .int))) none none none) = .ok (decide (a0 = 1)) :=
      bT_ok ((b2_ok (x := .int a0) (y := .int 1) ((b2_ok (x := .lst (ch.map .int)) (y := .int 0) rfl rfl).trans (ix_at (by omega) ha0)) rfl).trans (pEq_int _ _))
    by_cases h : a0 = 1
    · rw [decide_eq_true h] at et
      have hl : 0 < cs2.length := List.length_pos_iff.mpr f2.1
      have w : bC (aCons (eV 4) aNil) pLen (cenv one two row ch (some (.lst (cs2.map .int))) none none none) = .ok (.int cs2.length) := (bC1_ok (x := .lst (cs2.map .int)) rfl).trans (len_rw false cs2)
      have p4 : (b2 (bC (aCons (b2 (eV 3) (eC (.int 4)) pIx) aNil) pInt) (bC (aCons (eV 4) aNil) pLen) pMod) (cenv one two row ch (some (.lst (cs2.map .int))) none none none) = .ok (.int (a4 % cs2.length)) :=
        (b2_ok (x := .int a4) (bC1_ok (x := .int a4) ((b2_ok (x := .lst (ch.map .int)) (y := .int 4) rfl rfl).trans (ix_at (by omega) ha4))) w).trans (pMod_pos (by omega))
      have p3 : (b2 (bC (aCons (b2 (eV 3) (eC (.int 3)) pIx) aNil) pInt) (bC (aCons (eV 4) aNil) pLen) pMod) (cenv one two row ch (some (.lst (cs2.map .int))) none none none) = .ok (.int (a3 % cs2.length)) :=
        (b2_ok (x := .int a3) (bC1_ok (x := .int a3) ((b2_ok (x := .lst (ch.map .int)) (y := .int 3) rfl rfl).trans (ix_at (by omega) ha3))) w).trans (pMod_pos (by omega))
      have b0 := Int.emod_nonneg a4 (show (cs2.length : Int) ≠ 0 by omega)
      have b1 := Int.emod_lt_of_pos a4 (show (0 : Int) < cs2.length by omega)
      have hlt : (a4 % cs2.length).toNat < cs2.length := by omega
      have v1 : (b2 (eV 4) (b2 (bC (aCons (b2 (eV 3) (eC (.int 4)) pIx) aNil) pInt) (bC (aCons (eV 4) aNil) pLen) pMod) pIx) (cenv one two row ch (some (.lst (cs2.map .int))) none none none) = .ok (.int cs2[(a4 % cs2.length).toNat]) :=
        (b2_ok (x := .lst (cs2.map .int)) rfl p4).trans (ix_at b0 (List.getElem?_eq_getElem hlt))
      refine ⟨cs2.set (a3 % cs2.length).toNat cs2[(a4 % cs2.length).toNat], f2.set (f2.2.2 _ (List.getElem_mem hlt)), (if_yes et).trans ?_⟩
      exact sub_v (xs := cs2) rfl v1 p3 (Int.emod_nonneg _ (by omega)) (Int.emod_lt_of_pos _ (by omega)) rfl
    · rw [decide_eq_false h] at et
      exact ⟨cs2, f2, if_no et⟩
  obtain ⟨cs3, f3, e5⟩ := step2
  rw [then_next e5]
  have hf : ∃ f : Int, 1 ≤ f ∧ f ≤ 4 ∧ ([1, 1, 1, 2, 3, 4] : List Int)[a5.toNat]? = some f := by
    have : a5 = 0 ∨ a5 = 1 ∨ a5 = 2 ∨ a5 = 3 ∨ a5 = 4 ∨ a5 = 5 := by omega
    rcases this with rfl | rfl | rfl | rfl | rfl | rfl
    · exact ⟨1, by omega, by omega, rfl⟩
    · exact ⟨1, by omega, by omega, rfl⟩
    · exact ⟨1, by omega, by omega, rfl⟩
    · exact ⟨2, by omega, by omega, rfl⟩
    · exact ⟨3, by omega, by omega, rfl⟩
    · exact ⟨4, by omega, by omega, rfl⟩
  obtain ⟨f, f0, f4, hf⟩ := hf
  have e6 : dSet 6 (b2 (eLst (aCons (eC (.int 1)) (aCons (eC (.int 1)) (aCons (eC (.int 1)) (aCons (eC (.int 2)) (aCons (eC (.int 3)) (aCons (eC (.int 4)) aNil))))))) (b2 (eV 3) (eC (.int 5)) pIx) pIx) (cenv one two row ch (some (.lst (cs3.map .int))) none none none) = .next (cenv one two row ch (some (.lst (cs3.map .int))) none (some (.int f)) none) :=
    set_ok ((b2_ok (x := .lst (([1, 1, 1, 2, 3, 4] : List Int).map .int)) (y := .int a5) rfl ((b2_ok (x := .lst (ch.map .int)) (y := .int 5) rfl rfl).trans (ix_at (by omega) ha5))).trans (ix_at a50 hf))
  rw [then_next e6]
  refine ⟨cs3.map (· * f), decide (a6 < 2), ?_, ⟨fun e => f3.1 (by simpa using e), fun c hc => ?_, fun c hc => ?_, by rw [List.length_map]; exact f3.2.1⟩⟩
  · have v1 : (bLc [7] (iAny (eV 4)) (gN 7) yesB (b2 (eV 7) (eV 6) pMul)) (cenv one two row ch (some (.lst (cs3.map .int))) none (some (.int f)) none) = .ok (.lst ((cs3.map (· * f)).map .int)) := by
      show lcL [7] (gN 7) yesB _ _ (cs3.map .int) [] = _
      rw [lcL_map (ix := PV.int) (el := fun c => PV.int (c * f)) cs3 [] (fun c _ => ⟨cenv one two row ch (some (.lst (cs3.map .int))) none (some (.int f)) (some (.int c)), rfl, ?_⟩) (by have := f3.2.1; simp; omega)]
      · simp
      · exact (b2_ok (x := .int c) (y := .int f) rfl rfl).trans (pMul_hi (by omega))
    have v2 : (b2 (b2 (eV 3) (eC (.int 6)) pIx) (eC (.int 2)) iLt) (cenv one two row ch (some (.lst (cs3.map .int))) none (some (.int f)) none) = .ok (.bl (decide (a6 < 2))) :=
      b2_ok (x := .int a6) (y := .int 2) ((b2_ok (x := .lst (ch.map .int)) (y := .int 6) rfl rfl).trans (ix_at (by omega) ha6)) rfl
    refine congrArg bodyR (ret_ok (p := .tup [.lst ((cs3.map (· * f)).map .int), .bl (decide (a6 < 2))]) ?_)
    show Rs.bind (Rs.bind ((bLc [7] (iAny (eV 4)) (gN 7) yesB (b2 (eV 7) (eV 6) pMul)) _) fun x => Rs.bind (Rs.bind ((b2 (b2 (eV 3) (eC (.int 6)) pIx) (eC (.int 2)) iLt) _) fun y => Rs.bind (Rs.ok []) fun ys => .ok (y :: ys)) fun xs => .ok (x :: xs)) pTup = _
    rw [v1, bind_ok, v2]
    rfl
  · obtain ⟨u, hu, rfl⟩ := List.mem_map.mp hc
    exact Int.mul_pos (by have := (f3.2.2 u hu).1; omega) (by omega)
  · obtain ⟨u, hu, rfl⟩ := List.mem_map.mp hc
    have h1 := f3.2.2 u hu
    have : u * f ≤ 60 * 4 := Int.mul_le_mul h1.2 f4 (by omega) (by omega)
    omega
/-! ### the measure -/
abbrev measB : Env → Out := ifB (bT (bC (aCons (bLc [3] (iAny (eV 0)) (gN 3) yesB (b2 (b2 (bC (aCons (eV 3) aNil) pInt) (eV 2) pMod) (eC (.int 0)) pEq)) aNil) pAll)) (dSet 1 (eV 2)) .next
theorem meas_loop {cs : List Int} (W : Coins cs) : ∀ (c : Nat) (s best : Int) (x2 x3 : Option PV), 2 ≤ s → 1 ≤ best → (∀ u ∈ cs, best ∣ u) → (∀ t, 2 ≤ t → t < s → (∀ u ∈ cs, t ∣ u) → t ≤ best) →
    ∃ best' y2 y3, forL (gN 2) measB (rgP s c) [some (.lst (cs.map .int)), some (.int best), x2, x3] = .next [some (.lst (cs.map .int)), some (.int best'), y2, y3] ∧ 1 ≤ best' ∧ (∀ u ∈ cs, best' ∣ u) ∧ ∀ t, 2 ≤ t → t < s + c → (∀ u ∈ cs, t ∣ u) → t ≤ best'
  | 0, s, best, x2, x3, h1, h2, h3, h4 => ⟨best, x2, x3, rfl, h2, h3, fun t a b d => h4 t a (by omega) d⟩
  | c + 1, s, best, x2, x3, h1, h2, h3, h4 => by
    have et : bT (bC (aCons (bLc [3] (iAny (eV 0)) (gN 3) yesB (b2 (b2 (bC (aCons (eV 3) aNil) pInt) (eV 2) pMod) (eC (.int 0)) pEq)) aNil) pAll) [some (.lst (cs.map .int)), some (.int best), some (.int s), x3] = .ok ((cs.map fun u => decide (u % s = 0)).all _root_.id) := by
      refine bT_ok ?_
      have v : (bLc [3] (iAny (eV 0)) (gN 3) yesB (b2 (b2 (bC (aCons (eV 3) aNil) pInt) (eV 2) pMod) (eC (.int 0)) pEq)) [some (.lst (cs.map .int)), some (.int best), some (.int s), x3] = .ok (.lst ((cs.map fun u => decide (u % s = 0)).map .bl)) := by
        show lcL [3] (gN 3) yesB _ _ (cs.map .int) [] = _
        rw [lcL_map (ix := PV.int) (el := fun u => PV.bl (decide (u % s = 0))) cs [] (fun u _ => ⟨[some (.lst (cs.map .int)), some (.int best), some (.int s), some (.int u)], rfl, ?_⟩) (by have := W.few; simp; omega)]
        · simp
        · have w : b2 (bC (aCons (eV 3) aNil) pInt) (eV 2) pMod [some (.lst (cs.map .int)), some (.int best), some (.int s), some (.int u)] = .ok (.int (u % s)) := (b2_ok (x := .int u) (y := .int s) (bC1_ok (x := .int u) rfl) rfl).trans (pMod_pos (by omega))
          exact (b2_ok w rfl).trans (pEq_int _ _)
      exact (bC1_ok v).trans (all_bls _)
    have hall : ((cs.map fun u => decide (u % s = 0)).all _root_.id = true) ↔ ∀ u ∈ cs, s ∣ u := by
      rw [List.all_map, List.all_eq_true]
      refine ⟨fun h u hu => ?_, fun h u hu => ?_⟩
      · have := h u hu
        exact Int.dvd_of_emod_eq_zero (of_decide_eq_true this)
      · exact decide_eq_true (Int.emod_eq_zero_of_dvd (h u hu))
    have shift := rgP_succ s c
    rw [shift]
    by_cases h : ∀ u ∈ cs, s ∣ u
    · rw [hall.mpr h] at et
      obtain ⟨best', y2, y3, k1, k2, k3, k4⟩ := meas_loop W c (s + 1) s (some (.int s)) x3 (by omega) (by omega) h (fun t a b d => by omega)
      refine ⟨best', y2, y3, ?_, k2, k3, fun t a b d => k4 t a (by omega) d⟩
      exact (forL_next (fb := measB) (Γ1 := [some (.lst (cs.map .int)), some (.int best), some (.int s), x3]) (Γ2 := [some (.lst (cs.map .int)), some (.int s), some (.int s), x3]) rfl (.inl (if_yes et))).trans k1
    · have hf : (cs.map fun u => decide (u % s = 0)).all _root_.id = false := by
        cases z : (cs.map fun u => decide (u % s = 0)).all _root_.id with
        | false => rfl
        | true => exact absurd (hall.mp z) h
      rw [hf] at et
      obtain ⟨best', y2, y3, k1, k2, k3, k4⟩ := meas_loop W c (s + 1) best (some (.int s)) x3 (by omega) h2 h3 (fun t a b d => by
        by_cases e : t = s
        · subst e; exact absurd d h
        · exact h4 t a (by omega) d)
      refine ⟨best', y2, y3, ?_, k2, k3, fun t a b d => k4 t a (by omega) d⟩
      exact (forL_next (fb := measB) (Γ1 := [some (.lst (cs.map .int)), some (.int best), some (.int s), x3]) (Γ2 := [some (.lst (cs.map .int)), some (.int best), some (.int s), x3]) rfl (.inl (if_no et))).trans k1
theorem measure_v {cs : List Int} (W : Coins cs) : F__law_measure A [.lst (cs.map .int)] = .ok (.int (gcdL cs)) := by
  have hs : F__law_measure A [.lst (cs.map .int)] = bodyR (B__law_measure A [some (.lst (cs.map .int)), none, none, none]) := rfl
  rw [hs]
  unfold B__law_measure
  have e1 : dSet 1 (eC (.int 1)) [some (.lst (cs.map .int)), none, none, none] = .next [some (.lst (cs.map .int)), some (.int 1), none, none] := rfl
  rw [then_next e1]
  obtain ⟨best, y2, y3, k1, k2, k3, k4⟩ := meas_loop W 239 2 1 none none (by omega) (by omega) (fun u _ => Int.one_dvd u) (fun t a b _ => by omega)
  have hm := (min_mem W).1
  have gp := gcdL_pos W.lo hm
  have eg : best = gcdL cs := by
    have d1 := gcdL_max k3
    have h1 := Int.le_of_dvd gp d1
    have h2 := Int.le_of_dvd (W.lo _ hm) (gcdL_dvd _ hm)
    have h3 := W.hi _ hm
    by_cases z : gcdL cs < 2
    · omega
    · have := k4 (gcdL cs) (by omega) (by omega) gcdL_dvd
      omega
  rw [eg] at k1
  have er : (iR2 (aCons (eC (.int 2)) (aCons (eC (.int 241)) aNil))) [some (.lst (cs.map .int)), some (.int 1), none, none] = .ok (rgP 2 239) := by
    show (if ((-1000000000 : Int) ≤ 2 ∧ (2 : Int) ≤ 1000000000) ∧ (-1000000000 : Int) ≤ 241 ∧ (241 : Int) ≤ 1000000000 then (Rs.ok (rgP 2 ((241 : Int) - 2).toNat) : Rs (List PV)) else .bad) = _
    rw [if_pos (by omega)]
    rfl
  exact congrArg bodyR (then_next ((for_ok er).trans k1))
/-! ### what the units can pay -/
abbrev payB : Env → Out := dMt [0, 1, 2, 3] [1] 1 (aCons (bC (aCons (bLc [3] (iAny (eV 0)) (gN 3) (bT (b2 (eV 3) (eV 2) iLe)) (b2 (eV 1) (b2 (eV 2) (eV 3) iSub) pIx)) aNil) pAny) aNil) mAppend
/-- the table tells of each number whether it can be paid -/
def Tells (us : List Int) (tab : List Bool) : Prop := ∀ (j : Nat) (b : Bool), tab[j]? = some b → (b = true ↔ Pay us j)
theorem pay_turn {us : List Int} (W : Coins us) {tab : List Bool} (T : Tells us tab) (h1 : 1 ≤ tab.length) (h2 : tab.length < 100000) (x3 : Option PV) :
    ∃ b : Bool, Tells us (tab ++ [b]) ∧ payB [some (.lst (us.map .int)), some (.lst (tab.map .bl)), some (.int tab.length), x3] = .next [some (.lst (us.map .int)), some (.lst ((tab ++ [b]).map .bl)), some (.int tab.length), x3] := by
  let at_ : Int → Bool := fun u => (tab[((tab.length : Int) - u).toNat]?).getD false
  let ok : Int → Bool := fun u => decide (u ≤ (tab.length : Int))
  have v : (bLc [3] (iAny (eV 0)) (gN 3) (bT (b2 (eV 3) (eV 2) iLe)) (b2 (eV 1) (b2 (eV 2) (eV 3) iSub) pIx)) [some (.lst (us.map .int)), some (.lst (tab.map .bl)), some (.int tab.length), x3] = .ok (.lst (((us.filter ok).map at_).map .bl)) := by
    show lcL [3] (gN 3) _ _ _ (us.map .int) [] = _
    rw [lcL_filter (ix := PV.int) (t := ok) (el := fun u => PV.bl (at_ u)) us [] (fun u hu => ⟨[some (.lst (us.map .int)), some (.lst (tab.map .bl)), some (.int tab.length), some (.int u)], rfl, rfl, fun hok => ?_⟩) (by have := W.few; simp; omega)]
    · simp
    · have hle : u ≤ (tab.length : Int) := of_decide_eq_true hok
      have up := W.lo u hu
      have hlt : ((tab.length : Int) - u).toNat < tab.length := by omega
      refine (b2_ok (x := .lst (tab.map .bl)) (y := .int ((tab.length : Int) - u)) rfl rfl).trans (ix_lst (by omega) ?_)
      show (tab.map PV.bl)[((tab.length : Int) - u).toNat]? = some (PV.bl ((tab[((tab.length : Int) - u).toNat]?).getD false))
      rw [List.getElem?_map, List.getElem?_eq_getElem hlt]
      rfl
  have w : (bC (aCons (bLc [3] (iAny (eV 0)) (gN 3) (bT (b2 (eV 3) (eV 2) iLe)) (b2 (eV 1) (b2 (eV 2) (eV 3) iSub) pIx)) aNil) pAny) [some (.lst (us.map .int)), some (.lst (tab.map .bl)), some (.int tab.length), x3] = .ok (.bl (((us.filter ok).map at_).any _root_.id)) := (bC1_ok v).trans (any_bls _)
  have fact : (((us.filter ok).map at_).any _root_.id = true) ↔ Pay us tab.length := by
    rw [List.any_map, List.any_eq_true]
    constructor
    · rintro ⟨u, hu, hb⟩
      obtain ⟨hu1, hu2⟩ := List.mem_filter.mp hu
      have hle : u ≤ (tab.length : Int) := of_decide_eq_true hu2
      have up := W.lo u hu1
      have hlt : ((tab.length : Int) - u).toNat < tab.length := by omega
      have hb : (tab[((tab.length : Int) - u).toNat]?).getD false = true := hb
      rw [List.getElem?_eq_getElem hlt] at hb
      have := (T _ _ (List.getElem?_eq_getElem hlt)).mp hb
      have e : ((((tab.length : Int) - u).toNat : Nat) : Int) = (tab.length : Int) - u := by omega
      rw [e] at this
      have := Pay.add this hu1
      have e : (tab.length : Int) - u + u = tab.length := by omega
      rwa [e] at this
    · intro h
      rcases h.back with z | ⟨u, hu, hp⟩
      · omega
      · have up := W.lo u hu
        have nn := hp.nonneg W.lo
        have hlt : ((tab.length : Int) - u).toNat < tab.length := by omega
        refine ⟨u, List.mem_filter.mpr ⟨hu, decide_eq_true (by omega)⟩, ?_⟩
        show (tab[((tab.length : Int) - u).toNat]?).getD false = true
        rw [List.getElem?_eq_getElem hlt]
        refine (T _ _ (List.getElem?_eq_getElem hlt)).mpr ?_
        have e : ((((tab.length : Int) - u).toNat : Nat) : Int) = (tab.length : Int) - u := by omega
        rw [e]; exact hp
  refine ⟨((us.filter ok).map at_).any _root_.id, fun j b hj => ?_, ?_⟩
  · by_cases h : j < tab.length
    · rw [List.getElem?_append_left h] at hj
      exact T j b hj
    · have hj2 := (List.getElem?_eq_some_iff.mp hj).1
      rw [List.length_append, List.length_singleton] at hj2
      have : j = tab.length := by omega
      subst this
      rw [List.getElem?_append_right (Nat.le_refl _)] at hj
      simp only [Nat.sub_self, List.getElem?_cons_zero, Option.some.injEq] at hj
      rw [← hj]; exact fact
  · show outE (Rs.bind ((bC (aCons (bLc [3] (iAny (eV 0)) (gN 3) (bT (b2 (eV 3) (eV 2) iLe)) (b2 (eV 1) (b2 (eV 2) (eV 3) iSub) pIx)) aNil) pAny) _) fun x => Rs.bind (Rs.ok []) fun xs => .ok (x :: xs)) _ _ = _
    rw [w, bind_ok, bind_ok, outE_ok]
    show (match (if (tab.map PV.bl).length < 100000 then some (tab.map PV.bl ++ [PV.bl (((us.filter ok).map at_).any _root_.id)]) else none) with
      | some ys => if sep [0, 1, 2, 3] [1] _ (awayS [PV.bl (((us.filter ok).map at_).any _root_.id)]) = true then Out.next _ else .bad
      | none => .bad) = _
    rw [if_pos (by rw [List.length_map]; exact h2)]
    show Out.next _ = _
    rw [List.map_append]
    rfl
theorem pay_loop {us : List Int} (W : Coins us) : ∀ (c : Nat) (tab : List Bool) (x2 x3 : Option PV), Tells us tab → 1 ≤ tab.length → tab.length + c ≤ 100000 →
    ∃ tab' y2 y3, forL (gN 2) payB (rgP tab.length c) [some (.lst (us.map .int)), some (.lst (tab.map .bl)), x2, x3] = .next [some (.lst (us.map .int)), some (.lst (tab'.map .bl)), y2, y3] ∧ Tells us tab' ∧ tab'.length = tab.length + c
  | 0, tab, x2, x3, h1, h2, h3 => ⟨tab, x2, x3, rfl, h1, rfl⟩
  | c + 1, tab, x2, x3, h1, h2, h3 => by
    obtain ⟨b, k1, k2⟩ := pay_turn W h1 h2 (by omega) x3
    obtain ⟨tab', y2, y3, m1, m2, m3⟩ := pay_loop W c (tab ++ [b]) (some (.int tab.length)) x3 k1 (by simp) (by simp; omega)
    refine ⟨tab', y2, y3, ?_, m2, by rw [m3]; simp; omega⟩
    rw [rgP_succ]
    have e : (((tab ++ [b]).length : Nat) : Int) = (tab.length : Int) + 1 := by simp
    rw [e] at m1
    exact (forL_next (fb := payB) (Γ1 := [some (.lst (us.map .int)), some (.lst (tab.map .bl)), some (.int tab.length), x3]) (Γ2 := [some (.lst (us.map .int)), some (.lst ((tab ++ [b]).map .bl)), some (.int tab.length), x3]) rfl (.inl k2)).trans m1
theorem payable_v {us : List Int} (W : Coins us) : ∃ tab : List Bool, F__law_payable A [.lst (us.map .int)] = .ok (.lst (tab.map .bl)) ∧ Tells us tab ∧ (tab.length : Int) = minL us * maxL us + 1 := by
  have hs : F__law_payable A [.lst (us.map .int)] = bodyR (B__law_payable A [some (.lst (us.map .int)), none, none, none]) := rfl
  rw [hs]
  unfold B__law_payable
  have e1 : dSet 1 (eLst (aCons (eC (.bl true)) aNil)) [some (.lst (us.map .int)), none, none, none] = .next [some (.lst (us.map .int)), some (.lst (([true] : List Bool).map .bl)), none, none] := rfl
  rw [then_next e1]
  have a1 := (min_mem W).1
  have a2 := (max_mem W).1
  have b1 := W.lo _ a1
  have b2' := W.hi _ a1
  have b3 := W.lo _ a2
  have b4 := W.hi _ a2
  have m0 : 0 < minL us * maxL us := Int.mul_pos b1 b3
  have m1 : minL us * maxL us ≤ 240 * 240 := Int.mul_le_mul b2' b4 (by omega) (by omega)
  have T0 : Tells us [true] := fun j b h => by
    cases j with
    | zero => cases h; exact ⟨fun _ => .zero, fun _ => rfl⟩
    | succ j => simp at h
  obtain ⟨tab, y2, y3, k1, k2, k3⟩ := pay_loop W (minL us * maxL us).toNat [true] none none T0 (by simp) (by simp; omega)
  refine ⟨tab, ?_, k2, by rw [k3]; simp; omega⟩
  have er : (iR2 (aCons (eC (.int 1)) (aCons (b2 (b2 (bC (aCons (eV 0) aNil) (pBest min)) (bC (aCons (eV 0) aNil) (pBest max)) pMul) (eC (.int 1)) pAdd) aNil))) [some (.lst (us.map .int)), some (.lst (([true] : List Bool).map .bl)), none, none] = .ok (rgP 1 (minL us * maxL us).toNat) := by
    have v : (b2 (b2 (bC (aCons (eV 0) aNil) (pBest min)) (bC (aCons (eV 0) aNil) (pBest max)) pMul) (eC (.int 1)) pAdd) [some (.lst (us.map .int)), some (.lst (([true] : List Bool).map .bl)), none, none] = .ok (.int (minL us * maxL us + 1)) :=
      b2_ok (x := .int (minL us * maxL us)) (y := .int 1) ((b2_ok (x := .int (minL us)) (y := .int (maxL us)) ((bC1_ok rfl).trans (min_v (k := false) W)) ((bC1_ok rfl).trans (max_v (k := false) W))).trans (pMul_lo (by omega))) rfl
    show Rs.bind (Rs.bind (Rs.ok (PV.int 1)) fun x => Rs.bind (Rs.bind ((b2 (b2 (bC (aCons (eV 0) aNil) (pBest min)) (bC (aCons (eV 0) aNil) (pBest max)) pMul) (eC (.int 1)) pAdd) _) fun y => Rs.bind (Rs.ok []) fun ys => .ok (y :: ys)) fun xs => .ok (x :: xs)) pRg2 = _
    rw [v]
    show (if ((-1000000000 : Int) ≤ 1 ∧ (1 : Int) ≤ 1000000000) ∧ (-1000000000 : Int) ≤ minL us * maxL us + 1 ∧ minL us * maxL us + 1 ≤ 1000000000 then (Rs.ok (rgP 1 (minL us * maxL us + 1 - 1).toNat) : Rs (List PV)) else .bad) = _
    rw [if_pos (by omega)]
    congr 2
    omega
  exact congrArg bodyR (then_next ((for_ok er).trans k1))
end
end Lh.P.Co
set_option Elab.async false
set_option linter.all false
set_option maxRecDepth 100000
set_option maxHeartbeats 2000000
/-! What is paid, looked at by the law. -/
namespace Lh.P.Co
open PySem PySem.Spec PyProof.Rows L2 _root_.SX Lh.P Lh.P.B Lh.C
theorem dats_ints : ∀ ns : List Int, dats (ns.map .int) = some (ns.map PyData.int)
  | [] => rfl
  | n :: ns => by
    show (match some (PyData.int n), dats (ns.map .int) with
      | some d, some ds => some (d :: ds)
      | _, _ => none) = _
    rw [dats_ints ns]
    rfl
theorem shaped_ints (ns : List Int) : SeqAt.shaped (.list (ns.map PyData.int)) = true := by
  have h1 : ∀ ns : List Int, PyData.canLayAll0 (ns.map PyData.int) = true := fun ns => by
    induction ns with
    | nil => rfl
    | cons n ns ih => show (true && PyData.canLayAll0 (ns.map PyData.int)) = true; rw [ih]; rfl
  have h2 : PyData.depth (.list (ns.map PyData.int)) ≤ 64 := by
    show PyData.depthAll (ns.map PyData.int) + 1 ≤ 64
    rw [Lh.depth_ints]
    decide
  unfold SeqAt.shaped
  show (PyData.canLayAll0 (ns.map PyData.int) && _) = true
  rw [h1, decide_eq_true h2]
  rfl
theorem eqv_ints : ∀ ns : List Int, PyData.eqvAll (ns.map PyData.int) (ns.map PyData.int) = true
  | [] => rfl
  | n :: ns => by
    show ((n == n) && PyData.eqvAll (ns.map PyData.int) (ns.map PyData.int)) = true
    rw [eqv_ints ns]
    simp
theorem eq_row (ns : List Int) : pEq (.lst (ns.map .int)) (.lst (ns.map .int)) = .ok (.bl true) := by
  have hd : dat (.lst (ns.map .int)) = some (.list (ns.map PyData.int)) := by
    show (match dats (ns.map .int) with
      | some ds => some (PyData.list ds)
      | none => none) = _
    rw [dats_ints]
  unfold pEq two_dat
  rw [hd]
  dsimp only
  rw [shaped_ints]
  show Rs.ok (PV.bl (PyData.eqvAll (ns.map PyData.int) (ns.map PyData.int))) = _
  rw [eqv_ints]
theorem dot_range : ∀ (xs cs : List Int), xs.length = cs.length → ((List.range cs.length).map fun i => (xs[i]?).getD 0 * (cs[i]?).getD 0).sum = dot xs cs
  | [], [], _ => rfl
  | [], _ :: _, h => by cases h
  | _ :: _, [], h => by cases h
  | x :: xs, c :: cs, h => by
    have ih := dot_range xs cs (by simpa using h)
    rw [List.length_cons, List.range_succ_eq_map, List.map_cons, List.map_map, List.sum_cons]
    show x * c + _ = x * c + dot xs cs
    rw [← ih]
    rfl
section
variable {A : Ad} {cs : List Int} {k : Bool} {amount : Int}
abbrev lenv (cs : List Int) (k : Bool) (amount : Int) (b : Bool) (x5 x6 x7 : Option PV) : Env := [some (.lst (cs.map .int)), some (.bl k), some (.int amount), some (.bl b), some (rw_ k cs), x5, x6, x7]
abbrev judge (A : Ad) : Env → Out := (thenB (dSet 6 (bC (aCons (eV 4) (aCons (eV 2) aNil)) (F_pay A)))
 (thenB (ifB (bT (eV 3))
 (thenB (ifB (bOr (bNot (bT (bC (aCons (eV 6) aNil) (F__law_integers A)))) (bT (b2 (bC (aCons (eV 6) aNil) pLen) (bC (aCons (eV 0) aNil) pLen) pNe)))
 (dRet (eC (.bl false)))
 .next)
 (thenB (ifB (bOr (bT (b2 (bC (aCons (eV 6) aNil) (pBest min)) (eC (.int 0)) iLt)) (bT (b2 (bC (aCons (bLc [7] (iR1 (aCons (bC (aCons (eV 0) aNil) pLen) aNil)) (gN 7) yesB (b2 (b2 (eV 6) (eV 7) pIx) (b2 (eV 0) (eV 7) pIx) pMul)) aNil) pSum) (eV 2) pNe)))
 (dRet (eC (.bl false)))
 .next)
 (dMt [] [6] 6 (aCons (eC (.int 1)) aNil) mAppend)))
 .next)
 (ifB (bAnd (bNot (bT (eV 3))) (bT (b2 (eV 6) (eC .non) pNotN)))
 (dRet (eC (.bl false)))
 .next)))
theorem judge_v (W : Coins cs) (h0 : 0 ≤ amount) (hh : amount < 100000000) {b : Bool} (hb : b = true ↔ Pay cs amount) (x5 x6 x7 : Option PV) : ∃ y6 y7, judge A (lenv cs k amount b x5 x6 x7) = .next (lenv cs k amount b x5 y6 y7) := by
  rcases pay_v (A := A) (k := k) W h0 hh with ⟨np, e⟩ | ⟨p, xs, e, hl, hn, hd⟩
  · have hbf : b = false := by
      cases b with
      | false => rfl
      | true => exact absurd (hb.mp rfl) np
    subst hbf
    have e1 : dSet 6 (bC (aCons (eV 4) (aCons (eV 2) aNil)) (F_pay A)) (lenv cs k amount false x5 x6 x7) = .next (lenv cs k amount false x5 (some .non) x7) := set_ok ((bC2_ok (x := rw_ k cs) (y := .int amount) rfl rfl).trans e)
    refine ⟨_, _, (then_next e1).trans ((then_next (if_no (bT_ok rfl))).trans (if_no ?_))⟩
    rfl
  · have hbt : b = true := hb.mpr p
    subst hbt
    have e1 : dSet 6 (bC (aCons (eV 4) (aCons (eV 2) aNil)) (F_pay A)) (lenv cs k amount true x5 x6 x7) = .next (lenv cs k amount true x5 (some (.lst (xs.map .int))) x7) := set_ok ((bC2_ok (x := rw_ k cs) (y := .int amount) rfl rfl).trans e)
    have few := W.few
    have t1 : (bOr (bNot (bT (bC (aCons (eV 6) aNil) (F__law_integers A)))) (bT (b2 (bC (aCons (eV 6) aNil) pLen) (bC (aCons (eV 0) aNil) pLen) pNe))) (lenv cs k amount true x5 (some (.lst (xs.map .int))) x7) = .ok false := by
      have a1 : bNot (bT (bC (aCons (eV 6) aNil) (F__law_integers A))) (lenv cs k amount true x5 (some (.lst (xs.map .int))) x7) = .ok false := bNot_ok (b := true) (bT_ok ((bC1_ok (x := .lst (xs.map .int)) rfl).trans (ints_v xs (by omega))))
      refine (bOr_no a1).trans (bT_ok ?_)
      refine (b2_ok (x := .int xs.length) (y := .int cs.length) ((bC1_ok (x := .lst (xs.map .int)) rfl).trans (len_rw false xs)) ((bC1_ok (x := .lst (cs.map .int)) rfl).trans (len_rw false cs))).trans ?_
      rw [pNe_int, hl]
      simp
    have ne : xs ≠ [] := fun z => W.ne (List.eq_nil_of_length_eq_zero (by rw [← hl, z]; rfl))
    obtain ⟨y, ys, rfl⟩ : ∃ y ys, xs = y :: ys := by
      cases xs with
      | nil => exact absurd rfl ne
      | cons y ys => exact ⟨y, ys, rfl⟩
    have t2 : (bOr (bT (b2 (bC (aCons (eV 6) aNil) (pBest min)) (eC (.int 0)) iLt)) (bT (b2 (bC (aCons (bLc [7] (iR1 (aCons (bC (aCons (eV 0) aNil) pLen) aNil)) (gN 7) yesB (b2 (b2 (eV 6) (eV 7) pIx) (b2 (eV 0) (eV 7) pIx) pMul)) aNil) pSum) (eV 2) pNe))) (lenv cs k amount true x5 (some (.lst ((y :: ys).map .int))) x7) = .ok false := by
      have a1 : bT (b2 (bC (aCons (eV 6) aNil) (pBest min)) (eC (.int 0)) iLt) (lenv cs k amount true x5 (some (.lst ((y :: ys).map .int))) x7) = .ok (decide (ys.foldl min y < 0)) :=
        bT_ok (b2_ok (x := .int (ys.foldl min y)) (y := .int 0) ((bC1_ok (x := .lst ((y :: ys).map .int)) rfl).trans (best_rw min false y ys)) rfl)
      have : ¬ ys.foldl min y < 0 := by
        have := hn _ (foldl_min ys y).1
        omega
      rw [decide_eq_false this] at a1
      refine (bOr_no a1).trans (bT_ok ?_)
      have v : (bLc [7] (iR1 (aCons (bC (aCons (eV 0) aNil) pLen) aNil)) (gN 7) yesB (b2 (b2 (eV 6) (eV 7) pIx) (b2 (eV 0) (eV 7) pIx) pMul)) (lenv cs k amount true x5 (some (.lst ((y :: ys).map .int))) x7) = .ok (.lst (((List.range cs.length).map fun i => ((y :: ys)[i]?).getD 0 * (cs[i]?).getD 0).map .int)) := by
        have hr : (iR1 (aCons (bC (aCons (eV 0) aNil) pLen) aNil)) (lenv cs k amount true x5 (some (.lst ((y :: ys).map .int))) x7) = .ok ((List.range cs.length).map fun i : Nat => PV.int (0 + (i : Int))) := by
          show (if -1000000000 ≤ (((cs.map PV.int).length : Nat) : Int) ∧ (((cs.map PV.int).length : Nat) : Int) ≤ 1000000000 then Rs.ok (rgP 0 (((cs.map PV.int).length : Nat) : Int).toNat) else .bad) = _
          rw [List.length_map, if_pos (by omega), Int.toNat_natCast]
          rfl
        show Rs.bind ((iR1 (aCons (bC (aCons (eV 0) aNil) pLen) aNil)) _) (fun ps => lcL [7] (gN 7) yesB _ _ ps []) = _
        rw [hr, bind_ok, lcL_map (ix := fun i : Nat => PV.int (0 + (i : Int))) (el := fun i => PV.int (((y :: ys)[i]?).getD 0 * (cs[i]?).getD 0)) _ [] (fun i hi => ⟨lenv cs k amount true x5 (some (.lst ((y :: ys).map .int))) (some (.int (0 + (i : Int)))), rfl, ?_⟩) (by simp; omega)]
        · simp
        · have hi1 := List.mem_range.mp hi
          have hi2 : i < (y :: ys).length := by omega
          have en : (0 + (i : Int)).toNat = i := by omega
          have q1 : (b2 (eV 6) (eV 7) pIx) (lenv cs k amount true x5 (some (.lst ((y :: ys).map .int))) (some (.int (0 + (i : Int))))) = .ok (.int (y :: ys)[i]) := (b2_ok (x := .lst ((y :: ys).map .int)) (y := .int (0 + (i : Int))) rfl rfl).trans (ix_at (by omega) (by rw [en]; exact List.getElem?_eq_getElem hi2))
          have q2 : (b2 (eV 0) (eV 7) pIx) (lenv cs k amount true x5 (some (.lst ((y :: ys).map .int))) (some (.int (0 + (i : Int))))) = .ok (.int cs[i]) := (b2_ok (x := .lst (cs.map .int)) (y := .int (0 + (i : Int))) rfl rfl).trans (ix_at (by omega) (by rw [en]; exact List.getElem?_eq_getElem hi1))
          rw [List.getElem?_eq_getElem hi2, List.getElem?_eq_getElem hi1]
          have c1 := W.lo _ (List.getElem_mem hi1)
          have c2 := W.hi _ (List.getElem_mem hi1)
          exact (b2_ok q1 q2).trans (pMul_hi (by omega))
      have s : bC (aCons (bLc [7] (iR1 (aCons (bC (aCons (eV 0) aNil) pLen) aNil)) (gN 7) yesB (b2 (b2 (eV 6) (eV 7) pIx) (b2 (eV 0) (eV 7) pIx) pMul)) aNil) pSum (lenv cs k amount true x5 (some (.lst ((y :: ys).map .int))) x7) = .ok (.int amount) := by
        rw [bC1_ok v, sum_ints, dot_range _ _ hl, hd]
      refine (b2_ok (y := .int amount) s rfl).trans ?_
      rw [pNe_int]
      simp
    have e3 : dMt [] [6] 6 (aCons (eC (.int 1)) aNil) mAppend (lenv cs k amount true x5 (some (.lst ((y :: ys).map .int))) x7) = .next (lenv cs k amount true x5 (some (.lst (((y :: ys) ++ [1]).map .int))) x7) := by
      refine (append_v (xs := (y :: ys).map .int) (z := 1) rfl rfl (by rw [List.length_map, hl]; omega) rfl).trans ?_
      rw [List.map_append]
      rfl
    refine ⟨_, _, (then_next e1).trans ((then_next ((if_yes (bT_ok rfl)).trans ((then_next (if_no t1)).trans ((then_next (if_no t2)).trans e3)))).trans (if_no ?_))⟩
    exact bAnd_no (bNot_ok (b := true) (bT_ok rfl))
theorem pays_v (W : Coins cs) (h0 : 0 ≤ amount) (hh : amount < 100000000) {b : Bool} (hb : b = true ↔ Pay cs amount) : F__law_pays A [.lst (cs.map .int), .bl k, .int amount, .bl b] = .ok (.bl true) := by
  have hs : F__law_pays A [.lst (cs.map .int), .bl k, .int amount, .bl b] = bodyR (B__law_pays A [some (.lst (cs.map .int)), some (.bl k), some (.int amount), some (.bl b), none, none, none, none]) := rfl
  rw [hs]
  unfold B__law_pays
  have e1 : dSet 4 (bC (aCons (eV 0) (aCons (eV 1) aNil)) (F__law_handed A)) [some (.lst (cs.map .int)), some (.bl k), some (.int amount), some (.bl b), none, none, none, none] = .next (lenv cs k amount b none none none) := set_ok ((bC2_ok (x := .lst (cs.map .int)) (y := .bl k) rfl rfl).trans (handed_v cs k))
  rw [then_next e1]
  obtain ⟨y6, y7, j1⟩ := judge_v (A := A) (k := k) W h0 hh hb (some (.int 0)) none none
  obtain ⟨z6, z7, j2⟩ := judge_v (A := A) (k := k) W h0 hh hb (some (.int 1)) y6 y7
  have e2 : dFor (iR1 (aCons (eC (.int 2)) aNil)) (gN 5) (judge A) (lenv cs k amount b none none none) = .next (lenv cs k amount b (some (.int 1)) z6 z7) := by
    refine (for_ok (ps := [.int 0, .int 1]) rfl).trans ?_
    exact (forL_next (Γ1 := lenv cs k amount b (some (.int 0)) none none) rfl (.inl j1)).trans ((forL_next (Γ1 := lenv cs k amount b (some (.int 1)) y6 y7) rfl (.inl j2)).trans rfl)
  refine congrArg bodyR ((then_next e2).trans (ret_ok (p := .bl true) ?_))
  exact (b2_ok (x := .lst (cs.map .int)) (y := .lst (cs.map .int)) ((bC1_ok (x := rw_ k cs) rfl).trans (list_rw k cs)) rfl).trans (eq_row cs)
end
end Lh.P.Co
set_option Elab.async false
set_option linter.all false
set_option maxRecDepth 100000
set_option maxHeartbeats 4000000
/-! The law of the coins. -/
namespace Lh.P.Co
open PySem PySem.Spec PyProof.Rows L2 _root_.SX Lh.P Lh.P.B Lh.C
/-! ### units -/
section
variable {cs : List Int}
def unitsL (cs : List Int) : List Int := cs.map fun c => c / gcdL cs
theorem unit_pay (W : Coins cs) {j : Int} : Pay (unitsL cs) j ↔ Pay cs (gcdL cs * j) := by
  have gp := W.fix.gp
  constructor
  · intro h
    induction h with
    | zero => rw [Int.mul_zero]; exact .zero
    | @add n u _ hu ih =>
      obtain ⟨c, hc, rfl⟩ := List.mem_map.mp hu
      rw [Int.mul_add, Int.mul_ediv_cancel' (gcdL_dvd c hc)]
      exact .add ih hc
  · intro h
    have key : ∀ {x : Int}, Pay cs x → Pay (unitsL cs) (x / gcdL cs) := fun {x} h => by
      induction h with
      | zero => rw [Int.zero_ediv]; exact .zero
      | @add n c _ hc ih =>
        rw [Int.add_ediv_of_dvd_right (gcdL_dvd c hc)]
        exact .add ih (List.mem_map.mpr ⟨c, hc, rfl⟩)
    have := key h
    rwa [Int.mul_ediv_cancel_left _ (by omega)] at this
theorem unit_coins (W : Coins cs) : Coins (unitsL cs) := by
  have gp := W.fix.gp
  refine ⟨fun e => W.ne (by simpa [unitsL] using e), fun u hu => ?_, fun u hu => ?_, by unfold unitsL; rw [List.length_map]; exact W.few⟩
  · obtain ⟨c, hc, rfl⟩ := List.mem_map.mp hu
    have h1 := Int.le_of_dvd (W.lo c hc) (gcdL_dvd c hc)
    have e := Int.mul_ediv_cancel' (gcdL_dvd c hc)
    rcases Int.lt_or_le 0 (c / gcdL cs) with z | z
    · exact z
    · have : gcdL cs * (c / gcdL cs) ≤ gcdL cs * 0 := Int.mul_le_mul_of_nonneg_left z (by omega)
      have := W.lo c hc
      omega
  · obtain ⟨c, hc, rfl⟩ := List.mem_map.mp hu
    have h1 := W.hi c hc
    have h0 := W.lo c hc
    have := Int.ediv_le_self (gcdL cs) (show 0 ≤ c by omega)
    omega
theorem unit_mul (W : Coins cs) {u : Int} (hu : u ∈ unitsL cs) : gcdL cs * u ∈ cs := by
  obtain ⟨c, hc, rfl⟩ := List.mem_map.mp hu
  rw [Int.mul_ediv_cancel' (gcdL_dvd c hc)]; exact hc
theorem unit_min (W : Coins cs) : gcdL cs * minL (unitsL cs) = minL cs := by
  have gp := W.fix.gp
  have h1 := min_mem (unit_coins W)
  have h2 := min_mem W
  have a := h2.2 _ (unit_mul W h1.1)
  have b := h1.2 _ (List.mem_map.mpr ⟨_, h2.1, rfl⟩)
  have : gcdL cs * minL (unitsL cs) ≤ gcdL cs * (minL cs / gcdL cs) := Int.mul_le_mul_of_nonneg_left b (by omega)
  rw [Int.mul_ediv_cancel' (gcdL_dvd _ h2.1)] at this
  omega
theorem unit_max (W : Coins cs) : gcdL cs * maxL (unitsL cs) = maxL cs := by
  have gp := W.fix.gp
  have h1 := max_mem (unit_coins W)
  have h2 := max_mem W
  have a := h2.2 _ (unit_mul W h1.1)
  have b := h1.2 _ (List.mem_map.mpr ⟨_, h2.1, rfl⟩)
  have : gcdL cs * (maxL cs / gcdL cs) ≤ gcdL cs * maxL (unitsL cs) := Int.mul_le_mul_of_nonneg_left b (by omega)
  rw [Int.mul_ediv_cancel' (gcdL_dvd _ h2.1)] at this
  omega
/-- what the table has to say of the least sure amount -/
structure Sure (cs : List Int) (tab : List Bool) (s : Int) : Prop where
  up : ∀ j : Nat, tab[j]? = some false → ((j : Int) + 1) * gcdL cs ≤ s
  at_ : s = 0 ∨ ∃ j : Nat, tab[j]? = some false ∧ s = ((j : Int) + 1) * gcdL cs
theorem sure_eq (W : Coins cs) {l d : Tab} (Fo : Found cs l d) {tab : List Bool} (T : Tells (unitsL cs) tab) (hl : (tab.length : Int) = minL (unitsL cs) * maxL (unitsL cs) + 1) {s : Int} (S : Sure cs tab s) : s = topL l - minL cs + gcdL cs ∧ ∀ n, topL l - minL cs < n → gcdL cs ∣ n → Pay cs n := by
  have F := W.fix
  have gp := F.gp
  have hm := min_mem W
  have tp := (top_ok Fo).1
  have above : ∀ n, topL l - minL cs < n → gcdL cs ∣ n → Pay cs n := fun n h1 h2 => Fo.least.above tp h2 h1
  refine ⟨?_, above⟩
  have e1 := unit_min W
  have e2 := unit_max W
  have no : ∀ j : Nat, tab[j]? = some false → gcdL cs * (j : Int) ≤ topL l - minL cs := fun j hj => by
    rcases Int.lt_or_le (topL l - minL cs) (gcdL cs * (j : Int)) with z | z
    · have := (T j false hj).mpr (unit_pay W |>.mpr (above _ z (Int.dvd_mul_right _ _)))
      cases this
    · exact z
  obtain ⟨r, hr⟩ := tp.there
  have ps := (Fo.least.key _ _ hr).2
  have s0 := ps.nonneg W.lo
  by_cases h : topL l < minL cs
  · obtain ⟨t0, t1⟩ := Fo.least.small hm.2 tp h
    rcases S.at_ with z | ⟨j, hj, _⟩
    · omega
    · have := no j hj
      have := Int.mul_nonneg (show 0 ≤ gcdL cs by omega) (Int.natCast_nonneg j)
      omega
  · -- the greatest amount that cannot be paid
    have dv : gcdL cs ∣ topL l - minL cs := Int.dvd_sub (ps.dvd gcdL_dvd) (gcdL_dvd _ hm.1)
    obtain ⟨q, hq⟩ := dv
    have q0 : 0 ≤ q := by
      rcases Int.lt_or_le q 0 with z | z
      · have : gcdL cs * q ≤ gcdL cs * (-1) := Int.mul_le_mul_of_nonneg_left (by omega) (by omega)
        omega
      · exact z
    have hb := Fo.bnd _ _ hr
    have hM0 := F.M_pos
    have hlt : q < (tab.length : Int) := by
      have i1 : gcdL cs * q < gcdL cs * (tab.length : Int) := by
        rw [hl, Int.mul_add, Int.mul_one]
        have i2 : gcdL cs * (minL (unitsL cs) * maxL (unitsL cs)) = minL (unitsL cs) * maxL cs := by
          rw [← e2, ← Int.mul_assoc, ← Int.mul_assoc, Int.mul_comm (gcdL cs)]
        have i3 : (restsN cs : Int) = minL (unitsL cs) := by
          have := F.gm
          rw [← e1] at this
          exact Int.eq_of_mul_eq_mul_left (by omega) this
        rw [i2, ← i3, ← hq]
        have i4 : ((restsN cs : Int) - 1) * maxL cs = restsN cs * maxL cs - maxL cs := by rw [Int.sub_mul, Int.one_mul]
        have := hm.2 _ (max_mem W).1
        have := F.m_pos
        omega
      exact Int.lt_of_mul_lt_mul_left i1 (by omega)
    have hq2 : q.toNat < tab.length := by omega
    have hf : tab[q.toNat]? = some false := by
      rw [List.getElem?_eq_getElem hq2]
      cases hv : tab[q.toNat] with
      | false => rfl
      | true =>
        have := (T q.toNat true (by rw [List.getElem?_eq_getElem hq2, hv])).mp rfl
        have := (unit_pay W).mp this
        have e : ((q.toNat : Nat) : Int) = q := by omega
        rw [e, ← hq] at this
        exact absurd this (Fo.least.not_at tp)
    have u1 := S.up _ hf
    have e : ((q.toNat : Nat) : Int) = q := by omega
    rw [e, Int.add_mul, Int.one_mul, Int.mul_comm, ← hq] at u1
    rcases S.at_ with z | ⟨j, hj, hs⟩
    · omega
    · have := no j hj
      rw [Int.add_mul, Int.one_mul, Int.mul_comm] at hs
      omega
end
/-! ### the loops of the law -/
section
variable {A : Ad} {cs : List Int} {k : Bool}
abbrev wenv (ns : List Int) (cs : List Int) (k : Bool) (tab : List Bool) (x5 x6 x7 x8 x9 x10 x11 x12 x13 x14 : Option PV) : Env :=
  [some (.scr ns), some (.tup [.lst (cs.map .int), .bl k]), some (.lst (cs.map .int)), some (.int (gcdL cs)), some (.lst (tab.map .bl)), x5, x6, x7, x8, x9, x10, x11, x12, x13, x14]
abbrev sureB : Env → Out := ifB (bNot (bT (b2 (eV 4) (eV 7) pIx))) (dSet 6 (b2 (b2 (eV 7) (eC (.int 1)) pAdd) (eV 3) pMul)) .next
theorem sure_loop (W : Coins cs) (ns : List Int) (tab : List Bool) (x5 : Option PV) : ∀ (c i : Nat) (s : Int) (x7 : Option PV), i + c = tab.length → tab.length ≤ 100000 → 0 ≤ s → (∀ j : Nat, j < i → tab[j]? = some false → ((j : Int) + 1) * gcdL cs ≤ s) → (s = 0 ∨ ∃ j : Nat, j < i ∧ tab[j]? = some false ∧ s = ((j : Int) + 1) * gcdL cs) →
    ∃ s' y7, forL (gN 7) sureB (rgP i c) (wenv ns cs k tab x5 (some (.int s)) x7 none none none none none none none) = .next (wenv ns cs k tab x5 (some (.int s')) y7 none none none none none none none) ∧ Sure cs tab s' ∧ 0 ≤ s'
  | 0, i, s, x7, h1, hz, h0, h2, h3 => ⟨s, x7, rfl, ⟨fun j hj => h2 j (by have := (List.getElem?_eq_some_iff.mp hj).1; omega) hj, h3.imp (fun z => z) fun ⟨j, _, a, b⟩ => ⟨j, a, b⟩⟩, h0⟩
  | c + 1, i, s, x7, h1, hz, h0, h2, h3 => by
    have hi : i < tab.length := by omega
    have gp := W.fix.gp
    have ei : pIx (.lst (tab.map .bl)) (.int (i : Nat)) = .ok (.bl tab[i]) := ix_lst (by omega) (by rw [Int.toNat_natCast, List.getElem?_map, List.getElem?_eq_getElem hi]; rfl)
    have et : ∀ x5 x6, bNot (bT (b2 (eV 4) (eV 7) pIx)) (wenv ns cs k tab x5 x6 (some (.int (i : Nat))) none none none none none none none) = .ok (!tab[i]) := fun x5 x6 => bNot_ok (bT_ok ((b2_ok (x := .lst (tab.map .bl)) (y := .int (i : Nat)) rfl rfl).trans ei))
    have rest : ∀ s2 : Int, 0 ≤ s2 → sureB (wenv ns cs k tab x5 (some (.int s)) (some (.int (i : Nat))) none none none none none none none) = .next (wenv ns cs k tab x5 (some (.int s2)) (some (.int (i : Nat))) none none none none none none none) → (∀ j : Nat, j < i + 1 → tab[j]? = some false → ((j : Int) + 1) * gcdL cs ≤ s2) → (s2 = 0 ∨ ∃ j : Nat, j < i + 1 ∧ tab[j]? = some false ∧ s2 = ((j : Int) + 1) * gcdL cs) →
        ∃ s' y7, forL (gN 7) sureB (rgP i (c + 1)) (wenv ns cs k tab x5 (some (.int s)) x7 none none none none none none none) = .next (wenv ns cs k tab x5 (some (.int s')) y7 none none none none none none none) ∧ Sure cs tab s' ∧ 0 ≤ s' := fun s2 p0 e p1 p2 => by
      obtain ⟨s', y7, k1, k2, k3⟩ := sure_loop W ns tab x5 c (i + 1) s2 (some (.int (i : Nat))) (by omega) hz p0 p1 p2
      refine ⟨s', y7, ?_, k2, k3⟩
      rw [rgP_succ]
      have e2 : ((i + 1 : Nat) : Int) = (i : Int) + 1 := by omega
      rw [e2] at k1
      exact (forL_next (fb := sureB) (Γ1 := wenv ns cs k tab x5 (some (.int s)) (some (.int (i : Nat))) none none none none none none none) rfl (.inl e)).trans k1
    cases hv : tab[i] with
    | true =>
      have t := et x5 (some (.int s))
      rw [hv] at t
      refine rest s h0 (if_no t) (fun j hj hf => ?_) (h3.imp (fun z => z) fun ⟨j, a, b, e⟩ => ⟨j, by omega, b, e⟩)
      by_cases e : j = i
      · subst e
        rw [List.getElem?_eq_getElem hi, hv] at hf; cases hf
      · exact h2 j (by omega) hf
    | false =>
      have t := et x5 (some (.int s))
      rw [hv] at t
      have hfi : tab[i]? = some false := by rw [List.getElem?_eq_getElem hi, hv]
      have hg : gcdL cs ≤ 240 := by
        have := Int.le_of_dvd (W.lo _ (min_mem W).1) (gcdL_dvd _ (min_mem W).1)
        have := W.hi _ (min_mem W).1
        omega
      refine rest (((i : Int) + 1) * gcdL cs) (Int.mul_nonneg (by omega) (by omega)) ((if_yes t).trans (set_ok ?_)) (fun j hj hf => ?_) (.inr ⟨i, by omega, hfi, rfl⟩)
      · exact (b2_ok (x := .int ((i : Int) + 1)) (y := .int (gcdL cs)) rfl rfl).trans (pMul_hi (by omega))
      · exact Int.mul_le_mul_of_nonneg_right (by omega) (by omega)
abbrev amtB (A : Ad) : Env → Out := (thenB (dSet 14 (b2 (b2 (bC (aCons (eV 13) aNil) pInt) (eV 3) pMod) (eC (.int 0)) pEq))
 (thenB (ifB (bAnd (bT (eV 14)) (bT (b2 (b2 (eV 13) (eV 3) pFdiv) (bC (aCons (eV 4) aNil) pLen) iLt)))
 (dSet 14 (b2 (eV 4) (b2 (eV 13) (eV 3) pFdiv) pIx))
 .next)
 (ifB (bNot (bT (bC (aCons (eV 2) (aCons (b2 (eV 1) (eC (.int 1)) pIx) (aCons (eV 13) (aCons (eV 14) aNil)))) (F__law_pays A))))
 (dRet (eC (.bl false)))
 .next)))
theorem amt_v (W : Coins cs) (ns : List Int) {tab : List Bool} (T : Tells (unitsL cs) tab) (above : ∀ n : Int, (tab.length : Int) * gcdL cs ≤ n → gcdL cs ∣ n → Pay cs n) (x5 x6 x7 x8 x9 x10 x11 x12 x14 : Option PV) {a : Int} (h0 : 0 ≤ a) (hh : a < 100000000) :
    ∃ y14, amtB A (wenv ns cs k tab x5 x6 x7 x8 x9 x10 x11 x12 (some (.int a)) x14) = .next (wenv ns cs k tab x5 x6 x7 x8 x9 x10 x11 x12 (some (.int a)) y14) := by
  have gp := W.fix.gp
  have hg : gcdL cs ≤ 240 := by
    have := Int.le_of_dvd (W.lo _ (min_mem W).1) (gcdL_dvd _ (min_mem W).1)
    have := W.hi _ (min_mem W).1
    omega
  have e1 : dSet 14 (b2 (b2 (bC (aCons (eV 13) aNil) pInt) (eV 3) pMod) (eC (.int 0)) pEq) (wenv ns cs k tab x5 x6 x7 x8 x9 x10 x11 x12 (some (.int a)) x14) = .next (wenv ns cs k tab x5 x6 x7 x8 x9 x10 x11 x12 (some (.int a)) (some (.bl (decide (a % gcdL cs = 0))))) := by
    refine set_ok ((b2_ok (x := .int (a % gcdL cs)) (y := .int 0) ?_ rfl).trans (pEq_int _ _))
    exact (b2_ok (x := .int a) (y := .int (gcdL cs)) (bC1_ok (x := .int a) rfl) rfl).trans (pMod_pos gp)
  have ed : ∀ y14, (b2 (eV 13) (eV 3) pFdiv) (wenv ns cs k tab x5 x6 x7 x8 x9 x10 x11 x12 (some (.int a)) y14) = .ok (.int (a / gcdL cs)) := fun y14 => (b2_ok (x := .int a) (y := .int (gcdL cs)) rfl rfl).trans (pFdiv_pos gp (by omega))
  have el : ∀ y14, (bC (aCons (eV 4) aNil) pLen) (wenv ns cs k tab x5 x6 x7 x8 x9 x10 x11 x12 (some (.int a)) y14) = .ok (.int tab.length) := fun y14 => by
    refine (bC1_ok (x := .lst (tab.map .bl)) rfl).trans ?_
    show Rs.ok (PV.int ((tab.map PV.bl).length : Nat)) = _
    rw [List.length_map]
  have fin : ∀ b : Bool, (b = true ↔ Pay cs a) → (ifB (bNot (bT (bC (aCons (eV 2) (aCons (b2 (eV 1) (eC (.int 1)) pIx) (aCons (eV 13) (aCons (eV 14) aNil)))) (F__law_pays A)))) (dRet (eC (.bl false))) .next) (wenv ns cs k tab x5 x6 x7 x8 x9 x10 x11 x12 (some (.int a)) (some (.bl b))) = .next (wenv ns cs k tab x5 x6 x7 x8 x9 x10 x11 x12 (some (.int a)) (some (.bl b))) := fun b hb => by
    have := pays_v (A := A) (k := k) W h0 hh hb
    refine if_no (bNot_ok (b := true) (bT_ok ?_))
    exact (bC4_ok (x := .lst (cs.map .int)) (y := .bl k) (z := .int a) (u := .bl b) rfl rfl rfl rfl).trans this
  have a0 : 0 ≤ a / gcdL cs := Int.ediv_nonneg h0 (by omega)
  by_cases h : a % gcdL cs = 0
  · have dv : gcdL cs ∣ a := Int.dvd_of_emod_eq_zero h
    have em := Int.mul_ediv_cancel' dv
    rw [decide_eq_true h] at e1
    by_cases h2 : a / gcdL cs < (tab.length : Int)
    · have hlt : (a / gcdL cs).toNat < tab.length := by omega
      have et : (bAnd (bT (eV 14)) (bT (b2 (b2 (eV 13) (eV 3) pFdiv) (bC (aCons (eV 4) aNil) pLen) iLt))) (wenv ns cs k tab x5 x6 x7 x8 x9 x10 x11 x12 (some (.int a)) (some (.bl true))) = .ok true := by
        refine (bAnd_yes (bT_ok rfl)).trans (bT_ok ((b2_ok (ed _) (el _)).trans ?_))
        show Rs.ok (PV.bl (decide (a / gcdL cs < (tab.length : Int)))) = _
        rw [decide_eq_true h2]
      have e2 : dSet 14 (b2 (eV 4) (b2 (eV 13) (eV 3) pFdiv) pIx) (wenv ns cs k tab x5 x6 x7 x8 x9 x10 x11 x12 (some (.int a)) (some (.bl true))) = .next (wenv ns cs k tab x5 x6 x7 x8 x9 x10 x11 x12 (some (.int a)) (some (.bl tab[(a / gcdL cs).toNat]))) := by
        refine set_ok ((b2_ok (x := .lst (tab.map .bl)) rfl (ed _)).trans (ix_lst a0 ?_))
        rw [List.getElem?_map, List.getElem?_eq_getElem hlt]; rfl
      refine ⟨_, (then_next e1).trans ((then_next ((if_yes et).trans e2)).trans (fin _ ?_))⟩
      have := T _ _ (List.getElem?_eq_getElem hlt)
      rw [this, unit_pay W]
      have e : (((a / gcdL cs).toNat : Nat) : Int) = a / gcdL cs := by omega
      rw [e, em]
    · have et : (bAnd (bT (eV 14)) (bT (b2 (b2 (eV 13) (eV 3) pFdiv) (bC (aCons (eV 4) aNil) pLen) iLt))) (wenv ns cs k tab x5 x6 x7 x8 x9 x10 x11 x12 (some (.int a)) (some (.bl true))) = .ok false := by
        refine (bAnd_yes (bT_ok rfl)).trans (bT_ok ((b2_ok (ed _) (el _)).trans ?_))
        show Rs.ok (PV.bl (decide (a / gcdL cs < (tab.length : Int)))) = _
        rw [decide_eq_false h2]
      refine ⟨_, (then_next e1).trans ((then_next (if_no et)).trans (fin true ⟨fun _ => above a ?_ dv, fun _ => rfl⟩))⟩
      have : gcdL cs * (tab.length : Int) ≤ gcdL cs * (a / gcdL cs) := Int.mul_le_mul_of_nonneg_left (by omega) (by omega)
      rw [em, Int.mul_comm] at this
      exact this
  · rw [decide_eq_false h] at e1
    refine ⟨_, (then_next e1).trans ((then_next (if_no (bAnd_no (bT_ok rfl)))).trans (fin false ⟨fun z => (by cases z), fun p => ?_⟩))⟩
    exact absurd (Int.emod_eq_zero_of_dvd (p.dvd gcdL_dvd)) h
theorem amt_loop (W : Coins cs) (ns : List Int) {tab : List Bool} (T : Tells (unitsL cs) tab) (above : ∀ n : Int, (tab.length : Int) * gcdL cs ≤ n → gcdL cs ∣ n → Pay cs n) (x5 x6 x7 x8 x9 x10 x11 x12 : Option PV) : ∀ (as : List Int) (x13 x14 : Option PV), (∀ a ∈ as, 0 ≤ a ∧ a < 100000000) →
    ∃ y13 y14, forL (gN 13) (amtB A) (as.map .int) (wenv ns cs k tab x5 x6 x7 x8 x9 x10 x11 x12 x13 x14) = .next (wenv ns cs k tab x5 x6 x7 x8 x9 x10 x11 x12 y13 y14)
  | [], x13, x14, _ => ⟨x13, x14, rfl⟩
  | a :: as, x13, x14, h => by
    obtain ⟨y14, e⟩ := amt_v (A := A) (k := k) W ns T above x5 x6 x7 x8 x9 x10 x11 x12 x14 (h a List.mem_cons_self).1 (h a List.mem_cons_self).2
    obtain ⟨z13, z14, e2⟩ := amt_loop W ns T above x5 x6 x7 x8 x9 x10 x11 x12 as (some (.int a)) y14 fun b hb => h b (List.mem_cons_of_mem _ hb)
    refine ⟨z13, z14, ?_⟩
    rw [List.map_cons]
    exact (forL_next (Γ1 := wenv ns cs k tab x5 x6 x7 x8 x9 x10 x11 x12 (some (.int a)) x14) rfl (.inl e)).trans e2
end
end Lh.P.Co
set_option Elab.async false
set_option linter.all false
set_option maxRecDepth 100000
set_option maxHeartbeats 4000000
/-! The law of the coins holds at every script. -/
namespace Lh.P.Co
open PySem PySem.Spec PyProof.Rows L2 _root_.SX Lh.P Lh.P.B Lh.C
theorem noQ_ints : ∀ ns : List Int, noQs .L (ns.map .int) = true
  | [] => rfl
  | n :: ns => by
    show (true && noQs .L (ns.map .int)) = true
    rw [noQ_ints ns]; rfl
theorem aCons2_ok {f f2 : Env → Rs PV} {Γ : Env} {x y : PV} (h : f Γ = .ok x) (h2 : f2 Γ = .ok y) : aCons f (aCons f2 aNil) Γ = .ok [x, y] := by
  show Rs.bind (f Γ) _ = _
  rw [h]
  show Rs.bind (Rs.bind (f2 Γ) _) _ = _
  rw [h2]
  rfl
section
variable {A : Ad} {cs : List Int} {k : Bool}
abbrev askB (A : Ad) : Env → Out := (thenB (dSet 10 (bC (aCons (eV 8) aNil) (F_sure_amount A)))
 (ifB (bOr (bNot (bT (bC (aCons (eV 10) aNil) (F__law_is_integer A)))) (bT (b2 (eV 10) (eV 6) pNe)))
 (dRet (eC (.bl false)))
 .next))
theorem ask_v (ns : List Int) {tab : List Bool} {s : Int} (hs : F_sure_amount A [rw_ k cs] = .ok (.int s)) (x5 x7 x9 x10 : Option PV) : askB A (wenv ns cs k tab x5 (some (.int s)) x7 (some (rw_ k cs)) x9 x10 none none none none) = .next (wenv ns cs k tab x5 (some (.int s)) x7 (some (rw_ k cs)) x9 (some (.int s)) none none none none) := by
  have e1 : dSet 10 (bC (aCons (eV 8) aNil) (F_sure_amount A)) (wenv ns cs k tab x5 (some (.int s)) x7 (some (rw_ k cs)) x9 x10 none none none none) = .next (wenv ns cs k tab x5 (some (.int s)) x7 (some (rw_ k cs)) x9 (some (.int s)) none none none none) := set_ok ((bC1_ok (x := rw_ k cs) rfl).trans hs)
  refine (then_next e1).trans (if_no ?_)
  refine (bOr_no (bNot_ok (b := true) (bT_ok ((bC1_ok (x := .int s) rfl).trans (is_int_v s))))).trans (bT_ok ?_)
  refine (b2_ok (x := .int s) (y := .int s) rfl rfl).trans ?_
  rw [pNe_int]
  simp
end
theorem law_true' (A : Ad) (ns : List Int) : F_law A [.scr ns] = .ok (.bl true) := by
  have hs : F_law A [.scr ns] = bodyR (B_law A [some (.scr ns), none, none, none, none, none, none, none, none, none, none, none, none, none, none]) := rfl
  obtain ⟨i0, c0⟩ := cell_v (A := A) ns 0
  obtain ⟨i1, c1⟩ := cell_v (A := A) ns 1
  obtain ⟨i2, c2⟩ := cell_v (A := A) ns 2
  obtain ⟨cs, k, d0, W⟩ := coins_v (A := A) i0 i1
  rw [hs]
  unfold B_law
  have e1 : dSet 1 (bC (aCons (bC (aCons (eV 0) (aCons (eC (.int 0)) aNil)) (F__law_cell A)) (aCons (bC (aCons (eV 0) (aCons (eC (.int 1)) aNil)) (F__law_cell A)) aNil)) (F__law_coins A)) [some (.scr ns), none, none, none, none, none, none, none, none, none, none, none, none, none, none] =
      .next [some (.scr ns), some (.tup [.lst (cs.map .int), .bl k]), none, none, none, none, none, none, none, none, none, none, none, none, none] :=
    set_ok ((bC2_ok ((bC2_ok (x := .scr ns) (y := .int 0) rfl rfl).trans c0) ((bC2_ok (x := .scr ns) (y := .int 1) rfl rfl).trans c1)).trans d0)
  rw [then_next e1]
  have e2 : dSet 2 (b2 (eV 1) (eC (.int 0)) pIx) [some (.scr ns), some (.tup [.lst (cs.map .int), .bl k]), none, none, none, none, none, none, none, none, none, none, none, none, none] =
      .next [some (.scr ns), some (.tup [.lst (cs.map .int), .bl k]), some (.lst (cs.map .int)), none, none, none, none, none, none, none, none, none, none, none, none] :=
    set_ok ((b2_ok (x := .tup [.lst (cs.map .int), .bl k]) (y := .int 0) rfl rfl).trans (ix_tup (by omega) rfl))
  rw [then_next e2]
  have e3 : dSet 3 (bC (aCons (eV 2) aNil) (F__law_measure A)) [some (.scr ns), some (.tup [.lst (cs.map .int), .bl k]), some (.lst (cs.map .int)), none, none, none, none, none, none, none, none, none, none, none, none] =
      .next [some (.scr ns), some (.tup [.lst (cs.map .int), .bl k]), some (.lst (cs.map .int)), some (.int (gcdL cs)), none, none, none, none, none, none, none, none, none, none, none] :=
    set_ok ((bC1_ok (x := .lst (cs.map .int)) rfl).trans (measure_v W))
  rw [then_next e3]
  have gp := W.fix.gp
  have hg : gcdL cs ≤ 240 := by
    have := Int.le_of_dvd (W.lo _ (min_mem W).1) (gcdL_dvd _ (min_mem W).1)
    have := W.hi _ (min_mem W).1
    omega
  obtain ⟨tab, t0, T, tl⟩ := payable_v (A := A) (unit_coins W)
  have e4 : dSet 4 (bC (aCons (bLc [5] (iAny (eV 2)) (gN 5) yesB (b2 (eV 5) (eV 3) pFdiv)) aNil) (F__law_payable A)) [some (.scr ns), some (.tup [.lst (cs.map .int), .bl k]), some (.lst (cs.map .int)), some (.int (gcdL cs)), none, none, none, none, none, none, none, none, none, none, none] =
      .next (wenv ns cs k tab none none none none none none none none none none) := by
    have v : (bLc [5] (iAny (eV 2)) (gN 5) yesB (b2 (eV 5) (eV 3) pFdiv)) [some (.scr ns), some (.tup [.lst (cs.map .int), .bl k]), some (.lst (cs.map .int)), some (.int (gcdL cs)), none, none, none, none, none, none, none, none, none, none, none] = .ok (.lst ((unitsL cs).map .int)) := by
      show lcL [5] (gN 5) yesB _ _ (cs.map .int) [] = _
      rw [lcL_map (ix := PV.int) (el := fun c => PV.int (c / gcdL cs)) cs [] (fun c _ => ⟨[some (.scr ns), some (.tup [.lst (cs.map .int), .bl k]), some (.lst (cs.map .int)), some (.int (gcdL cs)), none, some (.int c), none, none, none, none, none, none, none, none, none], rfl, ?_⟩) (by have := W.few; simp; omega)]
      · simp [unitsL]
      · exact (b2_ok (x := .int c) (y := .int (gcdL cs)) rfl rfl).trans (pFdiv_pos gp (by omega))
    exact set_ok ((bC1_ok v).trans t0)
  rw [then_next e4]
  have e5 : dSet 6 (eC (.int 0)) (wenv ns cs k tab none none none none none none none none none none) = .next (wenv ns cs k tab none (some (.int 0)) none none none none none none none none) := rfl
  rw [then_next e5]
  -- how large things are
  have n1 : 0 < minL (unitsL cs) := (unit_coins W).lo _ (min_mem (unit_coins W)).1
  have n2 : minL (unitsL cs) ≤ 240 := (unit_coins W).hi _ (min_mem (unit_coins W)).1
  have n3 : 0 < maxL (unitsL cs) := (unit_coins W).lo _ (max_mem (unit_coins W)).1
  have n4 : maxL (unitsL cs) ≤ 240 := (unit_coins W).hi _ (max_mem (unit_coins W)).1
  have n5 : minL (unitsL cs) * maxL (unitsL cs) ≤ 240 * 240 := Int.mul_le_mul n2 n4 (by omega) (by omega)
  obtain ⟨s, y7, k1, S, s0⟩ := sure_loop (k := k) W ns tab none tab.length 0 0 none (by omega) (by omega) (by omega) (fun j hj => by omega) (.inl rfl)
  have e6 : dFor (iR1 (aCons (bC (aCons (eV 4) aNil) pLen) aNil)) (gN 7) sureB (wenv ns cs k tab none (some (.int 0)) none none none none none none none none) = .next (wenv ns cs k tab none (some (.int s)) y7 none none none none none none none) := by
    refine (for_ok (ps := rgP ((0 : Nat) : Int) tab.length) ?_).trans k1
    show (if -1000000000 ≤ (((tab.map PV.bl).length : Nat) : Int) ∧ (((tab.map PV.bl).length : Nat) : Int) ≤ 1000000000 then Rs.ok (rgP 0 (((tab.map PV.bl).length : Nat) : Int).toNat) else .bad) = _
    rw [List.length_map, if_pos (by omega), Int.toNat_natCast]
    rfl
  rw [then_next e6]
  have e7 : dSet 8 (bC (aCons (eV 2) (aCons (b2 (eV 1) (eC (.int 1)) pIx) aNil)) (F__law_handed A)) (wenv ns cs k tab none (some (.int s)) y7 none none none none none none none) = .next (wenv ns cs k tab none (some (.int s)) y7 (some (rw_ k cs)) none none none none none none) :=
    set_ok ((bC2_ok (x := .lst (cs.map .int)) (y := .bl k) rfl ((b2_ok (x := .tup [.lst (cs.map .int), .bl k]) (y := .int 1) rfl rfl).trans (ix_tup (by omega) rfl))).trans (handed_v cs k))
  rw [then_next e7]
  obtain ⟨l, d, Fo, sv, _⟩ := sure_v (A := A) (k := k) W
  obtain ⟨se, above⟩ := sure_eq W Fo T tl S
  rw [← se] at sv
  have e8 : dFor (iR1 (aCons (eC (.int 2)) aNil)) (gN 9) (askB A) (wenv ns cs k tab none (some (.int s)) y7 (some (rw_ k cs)) none none none none none none) = .next (wenv ns cs k tab none (some (.int s)) y7 (some (rw_ k cs)) (some (.int 1)) (some (.int s)) none none none none) := by
    refine (for_ok (ps := [.int 0, .int 1]) rfl).trans ?_
    exact (forL_next (Γ1 := wenv ns cs k tab none (some (.int s)) y7 (some (rw_ k cs)) (some (.int 0)) none none none none none) rfl (.inl (ask_v ns sv _ _ _ _))).trans ((forL_next (Γ1 := wenv ns cs k tab none (some (.int s)) y7 (some (rw_ k cs)) (some (.int 1)) (some (.int s)) none none none none) rfl (.inl (ask_v ns sv _ _ _ _))).trans rfl)
  rw [then_next e8]
  obtain ⟨row, r1, r2⟩ := row_v (A := A) (cell := i2) (sizes := [401, 60, 8, 100, 5040, 5040]) (by decide) (by decide)
  obtain ⟨a0, ha0, a00, a01⟩ := r2.at_ (j := 0) rfl
  obtain ⟨a1, ha1, a10, a11⟩ := r2.at_ (j := 1) rfl
  obtain ⟨a2, ha2, a20, a21⟩ := r2.at_ (j := 2) rfl
  obtain ⟨a3, ha3, a30, a31⟩ := r2.at_ (j := 3) rfl
  obtain ⟨a4, ha4, a40, a41⟩ := r2.at_ (j := 4) rfl
  obtain ⟨a5, ha5, a50, a51⟩ := r2.at_ (j := 5) rfl
  have e9 : dSet 11 (bC (aCons (bC (aCons (eV 0) (aCons (eC (.int 2)) aNil)) (F__law_cell A)) (aCons (eLst (aCons (eC (.int 401)) (aCons (eC (.int 60)) (aCons (eC (.int 8)) (aCons (eC (.int 100)) (aCons (eC (.int 5040)) (aCons (eC (.int 5040)) aNil))))))) aNil)) (F__law_row A)) (wenv ns cs k tab none (some (.int s)) y7 (some (rw_ k cs)) (some (.int 1)) (some (.int s)) none none none none) = .next (wenv ns cs k tab none (some (.int s)) y7 (some (rw_ k cs)) (some (.int 1)) (some (.int s)) (some (.lst (row.map .int))) none none none) :=
    set_ok ((bC2_ok (y := .lst (([401, 60, 8, 100, 5040, 5040] : List Int).map .int)) ((bC2_ok (x := .scr ns) (y := .int 2) rfl rfl).trans c2) rfl).trans r1)
  rw [then_next e9]
  have at_ : ∀ (j : Nat) (r : Int) (x12 x13 x14 : Option PV), row[j]? = some r → (b2 (eV 11) (eC (.int j)) pIx) (wenv ns cs k tab none (some (.int s)) y7 (some (rw_ k cs)) (some (.int 1)) (some (.int s)) (some (.lst (row.map .int))) x12 x13 x14) = .ok (.int r) := fun j r x12 x13 x14 h =>
    (b2_ok (x := .lst (row.map .int)) (y := .int j) rfl rfl).trans (ix_at (by omega) (by rw [Int.toNat_natCast]; exact h))
  have sb : s ≤ 240 * 240 + 480 := by
    obtain ⟨r, hr⟩ := (top_ok Fo).1.there
    have hb := Fo.bnd _ _ hr
    have h1 := rests_le W
    have h2 := W.hi _ (max_mem W).1
    have h3 := W.fix.M_pos
    have h4 := rests_pos W
    have : ((restsN cs : Int) - 1) * maxL cs ≤ 240 * 240 := Int.mul_le_mul (by omega) h2 (by omega) (by omega)
    have := W.fix.m_pos
    omega
  let g := gcdL cs
  let as1 : List Int := [0, a0, s, s + a1, if s - g > 0 then s - g else 0, s + g, s + 1]
  have e10 : dSet 12 (eLst (aCons (eC (.int 0)) (aCons (b2 (eV 11) (eC (.int 0)) pIx) (aCons (eV 6) (aCons (b2 (eV 6) (b2 (eV 11) (eC (.int 1)) pIx) pAdd) (aCons (bC (aCons (eC (.int 0)) (aCons (b2 (eV 6) (eV 3) iSub) aNil)) pMax2) (aCons (b2 (eV 6) (eV 3) pAdd) (aCons (b2 (eV 6) (eC (.int 1)) pAdd) aNil)))))))) (wenv ns cs k tab none (some (.int s)) y7 (some (rw_ k cs)) (some (.int 1)) (some (.int s)) (some (.lst (row.map .int))) none none none) =
      .next (wenv ns cs k tab none (some (.int s)) y7 (some (rw_ k cs)) (some (.int 1)) (some (.int s)) (some (.lst (row.map .int))) (some (.lst (as1.map .int))) none none) := by
    refine set_ok (p := .lst (as1.map .int)) ?_
    have u0 := at_ 0 a0 none none none ha0
    have u1 : (b2 (eV 6) (b2 (eV 11) (eC (.int 1)) pIx) pAdd) (wenv ns cs k tab none (some (.int s)) y7 (some (rw_ k cs)) (some (.int 1)) (some (.int s)) (some (.lst (row.map .int))) none none none) = .ok (.int (s + a1)) := b2_ok (x := .int s) (y := .int a1) rfl (at_ 1 a1 none none none ha1)
    show Rs.bind (aCons (eC (.int 0)) (aCons (b2 (eV 11) (eC (.int 0)) pIx) (aCons (eV 6) (aCons (b2 (eV 6) (b2 (eV 11) (eC (.int 1)) pIx) pAdd) _))) _) pLst = _
    have big : aCons (eC (.int 0)) (aCons (b2 (eV 11) (eC (.int 0)) pIx) (aCons (eV 6) (aCons (b2 (eV 6) (b2 (eV 11) (eC (.int 1)) pIx) pAdd) (aCons (bC (aCons (eC (.int 0)) (aCons (b2 (eV 6) (eV 3) iSub) aNil)) pMax2) (aCons (b2 (eV 6) (eV 3) pAdd) (aCons (b2 (eV 6) (eC (.int 1)) pAdd) aNil)))))) (wenv ns cs k tab none (some (.int s)) y7 (some (rw_ k cs)) (some (.int 1)) (some (.int s)) (some (.lst (row.map .int))) none none none) = .ok (as1.map .int) := by
      unfold aCons
      have u0' : b2 (eV 11) (eC (.int 0)) pIx (wenv ns cs k tab none (some (.int s)) y7 (some (rw_ k cs)) (some (.int 1)) (some (.int s)) (some (.lst (row.map .int))) none none none) = .ok (.int a0) := u0
      rw [u0', u1]
      rfl
    rw [big]
    rfl
  rw [then_next e10]
  have as1_ok : ∀ a ∈ as1, 0 ≤ a ∧ a < 100000000 := fun a ha => by
    have gg : g = gcdL cs := rfl
    simp only [as1, List.mem_cons, List.not_mem_nil, or_false] at ha
    rcases ha with rfl | rfl | rfl | rfl | rfl | rfl | rfl
    · omega
    · omega
    · omega
    · omega
    · split <;> omega
    · omega
    · omega
  let as2 : List Int := as1 ++ [a4 % (s + 1), a5 % (s + 1)]
  have p4 : 0 ≤ a4 % (s + 1) ∧ a4 % (s + 1) < s + 1 := ⟨Int.emod_nonneg _ (by omega), Int.emod_lt_of_pos _ (by omega)⟩
  have p5 : 0 ≤ a5 % (s + 1) ∧ a5 % (s + 1) < s + 1 := ⟨Int.emod_nonneg _ (by omega), Int.emod_lt_of_pos _ (by omega)⟩
  have e11 : dSetOR [6, 11, 12] [12] 12 (b2 (eV 12) (eLst (aCons (b2 (bC (aCons (b2 (eV 11) (eC (.int 4)) pIx) aNil) pInt) (b2 (eV 6) (eC (.int 1)) pAdd) pMod) (aCons (b2 (bC (aCons (b2 (eV 11) (eC (.int 5)) pIx) aNil) pInt) (b2 (eV 6) (eC (.int 1)) pAdd) pMod) aNil))) pCat) (wenv ns cs k tab none (some (.int s)) y7 (some (rw_ k cs)) (some (.int 1)) (some (.int s)) (some (.lst (row.map .int))) (some (.lst (as1.map .int))) none none) =
      .next (wenv ns cs k tab none (some (.int s)) y7 (some (rw_ k cs)) (some (.int 1)) (some (.int s)) (some (.lst (row.map .int))) (some (.lst (as2.map .int))) none none) := by
    have w4 : (b2 (bC (aCons (b2 (eV 11) (eC (.int 4)) pIx) aNil) pInt) (b2 (eV 6) (eC (.int 1)) pAdd) pMod) (wenv ns cs k tab none (some (.int s)) y7 (some (rw_ k cs)) (some (.int 1)) (some (.int s)) (some (.lst (row.map .int))) (some (.lst (as1.map .int))) none none) = .ok (.int (a4 % (s + 1))) :=
      (b2_ok (x := .int a4) (y := .int (s + 1)) (bC1_ok (x := .int a4) (at_ 4 a4 _ _ _ ha4)) rfl).trans (pMod_pos (by omega))
    have w5 : (b2 (bC (aCons (b2 (eV 11) (eC (.int 5)) pIx) aNil) pInt) (b2 (eV 6) (eC (.int 1)) pAdd) pMod) (wenv ns cs k tab none (some (.int s)) y7 (some (rw_ k cs)) (some (.int 1)) (some (.int s)) (some (.lst (row.map .int))) (some (.lst (as1.map .int))) none none) = .ok (.int (a5 % (s + 1))) :=
      (b2_ok (x := .int a5) (y := .int (s + 1)) (bC1_ok (x := .int a5) (at_ 5 a5 _ _ _ ha5)) rfl).trans (pMod_pos (by omega))
    have v : (b2 (eV 12) (eLst (aCons (b2 (bC (aCons (b2 (eV 11) (eC (.int 4)) pIx) aNil) pInt) (b2 (eV 6) (eC (.int 1)) pAdd) pMod) (aCons (b2 (bC (aCons (b2 (eV 11) (eC (.int 5)) pIx) aNil) pInt) (b2 (eV 6) (eC (.int 1)) pAdd) pMod) aNil))) pCat) (wenv ns cs k tab none (some (.int s)) y7 (some (rw_ k cs)) (some (.int 1)) (some (.int s)) (some (.lst (row.map .int))) (some (.lst (as1.map .int))) none none) = .ok (.lst (as2.map .int)) := by
      have lst : (eLst (aCons (b2 (bC (aCons (b2 (eV 11) (eC (.int 4)) pIx) aNil) pInt) (b2 (eV 6) (eC (.int 1)) pAdd) pMod) (aCons (b2 (bC (aCons (b2 (eV 11) (eC (.int 5)) pIx) aNil) pInt) (b2 (eV 6) (eC (.int 1)) pAdd) pMod) aNil))) (wenv ns cs k tab none (some (.int s)) y7 (some (rw_ k cs)) (some (.int 1)) (some (.int s)) (some (.lst (row.map .int))) (some (.lst (as1.map .int))) none none) = .ok (.lst [.int (a4 % (s + 1)), .int (a5 % (s + 1))]) := by
        refine (congrArg (fun r => Rs.bind r pLst) (aCons2_ok w4 w5)).trans rfl
      refine (b2_ok (x := .lst (as1.map .int)) rfl lst).trans ?_
      show (if (as1.map PV.int).length + 2 ≤ 100000 then Rs.ok (PV.lst (as1.map PV.int ++ [.int (a4 % (s + 1)), .int (a5 % (s + 1))])) else .bad) = _
      rw [if_pos (by rw [List.length_map]; show 7 + 2 ≤ 100000; omega)]
      rfl
    unfold dSetOR
    rw [v, outE_ok]
    show (if sep [6, 11, 12] [12] _ (awayS (as2.map .int)) = true then Out.next _ else .bad) = _
    have hsep : sep [6, 11, 12] [12] (wenv ns cs k tab none (some (.int s)) y7 (some (rw_ k cs)) (some (.int 1)) (some (.int s)) (some (.lst (row.map .int))) (some (.lst (as1.map .int))) none none) (awayS (as2.map .int)) = true := by
      show ((noQs .L (as2.map .int)) && true) = true
      rw [noQ_ints]
      rfl
    rw [if_pos hsep]
    rfl
  rw [then_next e11]
  have as2_ok : ∀ a ∈ as2, 0 ≤ a ∧ a < 100000000 := fun a ha => by
    rcases List.mem_append.mp ha with h | h
    · exact as1_ok a h
    · simp only [List.mem_cons, List.not_mem_nil, or_false] at h
      rcases h with rfl | rfl <;> omega
  have e12 : ∃ as3 : List Int, (∀ a ∈ as3, 0 ≤ a ∧ a < 100000000) ∧ ifB (bT (b2 (b2 (eV 11) (eC (.int 2)) pIx) (eC (.int 0)) pEq)) (dMt [11] [12] 12 (aCons (b2 (eC (.int 3000)) (b2 (eV 11) (eC (.int 3)) pIx) pAdd) aNil) mAppend) .next (wenv ns cs k tab none (some (.int s)) y7 (some (rw_ k cs)) (some (.int 1)) (some (.int s)) (some (.lst (row.map .int))) (some (.lst (as2.map .int))) none none) =
      .next (wenv ns cs k tab none (some (.int s)) y7 (some (rw_ k cs)) (some (.int 1)) (some (.int s)) (some (.lst (row.map .int))) (some (.lst (as3.map .int))) none none) := by
    have et : bT (b2 (b2 (eV 11) (eC (.int 2)) pIx) (eC (.int 0)) pEq) (wenv ns cs k tab none (some (.int s)) y7 (some (rw_ k cs)) (some (.int 1)) (some (.int s)) (some (.lst (row.map .int))) (some (.lst (as2.map .int))) none none) = .ok (decide (a2 = 0)) := bT_ok ((b2_ok (x := .int a2) (y := .int 0) (at_ 2 a2 _ _ _ ha2) rfl).trans (pEq_int _ _))
    by_cases h : a2 = 0
    · rw [decide_eq_true h] at et
      have v : (b2 (eC (.int 3000)) (b2 (eV 11) (eC (.int 3)) pIx) pAdd) (wenv ns cs k tab none (some (.int s)) y7 (some (rw_ k cs)) (some (.int 1)) (some (.int s)) (some (.lst (row.map .int))) (some (.lst (as2.map .int))) none none) = .ok (.int (3000 + a3)) := b2_ok (x := .int 3000) (y := .int a3) rfl (at_ 3 a3 _ _ _ ha3)
      refine ⟨as2 ++ [3000 + a3], fun a ha => ?_, (if_yes et).trans ((append_v (xs := as2.map .int) (z := 3000 + a3) rfl v (by rw [List.length_map]; show 9 < 100000; omega) rfl).trans ?_)⟩
      · rcases List.mem_append.mp ha with h | h
        · exact as2_ok a h
        · have : a = 3000 + a3 := by simpa using h
          omega
      · rw [List.map_append]
        rfl
    · rw [decide_eq_false h] at et
      exact ⟨as2, as2_ok, if_no et⟩
  obtain ⟨as3, as3_ok, e12⟩ := e12
  rw [then_next e12]
  have ab : ∀ n : Int, (tab.length : Int) * gcdL cs ≤ n → gcdL cs ∣ n → Pay cs n := fun n h1 h2 => by
    refine above n ?_ h2
    have e1 := unit_min W
    have e2 := unit_max W
    obtain ⟨r, hr⟩ := (top_ok Fo).1.there
    have hb := Fo.bnd _ _ hr
    have F := W.fix
    have i3 : (restsN cs : Int) = minL (unitsL cs) := by
      have := F.gm
      rw [← e1] at this
      exact Int.eq_of_mul_eq_mul_left (by omega) this
    have i1 : (tab.length : Int) * gcdL cs = restsN cs * maxL cs + gcdL cs := by
      rw [tl, Int.add_mul, Int.one_mul, i3, ← e2, Int.mul_assoc, Int.mul_comm (maxL (unitsL cs))]
    have i4 : ((restsN cs : Int) - 1) * maxL cs = restsN cs * maxL cs - maxL cs := by rw [Int.sub_mul, Int.one_mul]
    have := F.M_pos
    have := F.m_pos
    omega
  obtain ⟨y13, y14, k2⟩ := amt_loop (A := A) (k := k) W ns T ab none (some (.int s)) y7 (some (rw_ k cs)) (some (.int 1)) (some (.int s)) (some (.lst (row.map .int))) (some (.lst (as3.map .int))) as3 none none as3_ok
  have e13 : dFor (iAny (eV 12)) (gN 13) (amtB A) (wenv ns cs k tab none (some (.int s)) y7 (some (rw_ k cs)) (some (.int 1)) (some (.int s)) (some (.lst (row.map .int))) (some (.lst (as3.map .int))) none none) = _ := (for_ok (ps := as3.map .int) rfl).trans k2
  rw [then_next e13]
  refine congrArg bodyR (ret_ok (p := .bl true) ?_)
  exact (b2_ok (x := .lst (cs.map .int)) (y := .lst (cs.map .int)) ((bC1_ok (x := rw_ k cs) rfl).trans (list_rw k cs)) rfl).trans (eq_row cs)
end Lh.P.Co
namespace Lh.P
theorem law_true (A : Ad) (ns : List Int) (_ : ns.length ≤ 63) : F_law A [.scr ns] = .ok (.bl true) := Co.law_true' A ns
end Lh.P
set_option Elab.async false
set_option linter.all false
set_option maxRecDepth 100000
set_option maxHeartbeats 1000000
/-! A def from which no error flies, told so. -/
namespace Lh.P
open PySem PySem.Spec PyProof.Rows L2
theorem fn_calm {P : Program} {w : World} {K : PySem.W.Frag} {mg : Str → Option Value} {base : Heap} {k : Nat} {f : Addr} {fd : FuncData} {ps : List Str} {sp : Sp} (F : FnOk P w K mg base (L2.CX P w) k f fd ps sp) : FnOk P w K mg base L2.CX0 k f fd ps (fun vs H Q _ => sp vs H Q fun _ _ _ => False) :=
  ⟨fun vs H Q E h => F.len vs H Q _ h, fun A outer s H args us vs Q E hr he hb hv hs => codeAny_mono (F.run A outer s H args us vs Q (fun _ _ _ => False) hr he hb hv hs) fun r s' h => by
    cases r with
    | ok v => cases v <;> exact h
    | error e =>
      obtain ⟨_, _, _, _, _, _, _, _, _, _, _, _, z⟩ := h
      exact z.elim⟩
end Lh.P
set_option Elab.async false
set_option linter.all false
set_option maxRecDepth 100000
set_option maxHeartbeats 0
namespace Lh.P.Hd
open PySem PySem.Spec PyProof.Rows L2
section
variable {P : Program} {w : World} {K : PySem.W.Frag} {h : Heap} {mg : Str → Option Value}
theorem dfn_of (X : K.In h) (G : h.Ns mainGlobals mg) (c : He.SaysD fa fn K) {x : Str} {st : Stmt} (i j : Nat) (h1 : fn[i]? = some ⟨(x, none), x, x, defArgs st, defBody st, defScope st, [], []⟩) (h2 : fa[j]? = some (.glo x)) : Dfn K mg x st := by
  obtain ⟨fd, F⟩ := c.def_ i h1
  exact ⟨_, fd, F, He.glo_ok X G (c.fact j h2)⟩
theorem facts {f : Addr} (X : K.In h) (G : h.Ns mainGlobals mg) (hfa : mg ("law" : Str) = some (.ref f)) (Z : He.SaysX fa fn [] [] exB w h K) :
    ∃ fd : FuncData, (∀ (s : Shared) (v : Value), BindsTo s fd ⟨[v], []⟩ [("_law_script", v)]) ∧ ∀ (A : Ad) (base : Heap), FnOk P w K mg base (L2.CX P w) 4 f fd ["_law_script"] (spF K 1 (F_law A)) := by
  have c : He.SaysD fa fn K := congrArg (fun z : He.AlT => z.1) Z.t
  have B : Bl mg := ⟨He.free_ok X G (c.fact 14 (f := .free "len") rfl), He.free_ok X G (c.fact 15 (f := .free "range") rfl), He.free_ok X G (c.fact 16 (f := .free "int") rfl), He.free_ok X G (c.fact 17 (f := .free "isinstance") rfl), He.free_ok X G (c.fact 18 (f := .free "bool") rfl), He.free_ok X G (c.fact 19 (f := .free "str") rfl), He.free_ok X G (c.fact 20 (f := .free "list") rfl), He.free_ok X G (c.fact 21 (f := .free "tuple") rfl), He.free_ok X G (c.fact 22 (f := .free "all") rfl), He.free_ok X G (c.fact 23 (f := .free "any") rfl), He.free_ok X G (c.fact 24 (f := .free "set") rfl), He.free_ok X G (c.fact 25 (f := .free "max") rfl), He.free_ok X G (c.fact 26 (f := .free "min") rfl), He.free_ok X G (c.fact 27 (f := .free "sum") rfl), He.free_ok X G (c.fact 28 (f := .free "zip") rfl), He.free_ok X G (c.fact 29 (f := .free "sorted") rfl), He.free_ok X G (c.fact 30 (f := .free "enumerate") rfl)⟩
  obtain ⟨r2, m2⟩ := He.ba Z.more
  obtain ⟨r1, m1⟩ := He.ba r2
  have m0 := r1
  have h_heappop : mg "heappop" = some (.builtin "_heapq.heappop") := PySem.W.mg_of X G (He.eqO_ok m0)
  have h_heappush : mg "heappush" = some (.builtin "_heapq.heappush") := PySem.W.mg_of X G (He.eqO_ok m1)
  have h_gcd : mg "gcd" = some (.builtin "math.gcd") := PySem.W.mg_of X G (He.eqO_ok m2)
  obtain ⟨fdL, FL⟩ := c.def_ 13 (d := ⟨("law", none), "law", "law", defArgs (top 17), defBody (top 17), defScope (top 17), [], []⟩) rfl
  have e : He.ga K "law" = f := by
    have := He.glo_ok X G (c.fact 13 (f := .glo "law") rfl)
    rw [hfa] at this
    cases this; rfl
  have b := FunD.bindsA (ps := ["_law_script"]) FL fun _ _ _ _ _ _ us hl => match us, hl with | [_], _ => rfl
  rw [← e]
  refine ⟨fdL, fun s v => b s [v] rfl, fun A base => ?_⟩
  have c_common_divisor := ok_common_divisor (P := P) (w := w) (base := base) (A := A) B h_gcd (dfn_of X G c 0 0 rfl rfl)
  have c_least_amounts := ok_least_amounts (P := P) (w := w) (base := base) (A := A) B h_heappop h_heappush (dfn_of X G c 1 1 rfl rfl)
  have c_sure_amount := ok_sure_amount (P := P) (w := w) (base := base) (A := A) B (dfn_of X G c 2 2 rfl rfl) c_least_amounts c_common_divisor
  have c_pay := ok_pay (P := P) (w := w) (base := base) (A := A) B (dfn_of X G c 3 3 rfl rfl) c_least_amounts
  have c__law_cell := ok__law_cell (P := P) (w := w) (base := base) (A := A) B (dfn_of X G c 4 4 rfl rfl)
  have c__law_row := ok__law_row (P := P) (w := w) (base := base) (A := A) B (dfn_of X G c 5 5 rfl rfl)
  have c__law_is_integer := ok__law_is_integer (P := P) (w := w) (base := base) (A := A) B (dfn_of X G c 6 6 rfl rfl)
  have c__law_integers := ok__law_integers (P := P) (w := w) (base := base) (A := A) B (dfn_of X G c 7 7 rfl rfl) c__law_is_integer
  have c__law_coins := ok__law_coins (P := P) (w := w) (base := base) (A := A) B (dfn_of X G c 8 8 rfl rfl) c__law_row
  have c__law_measure := ok__law_measure (P := P) (w := w) (base := base) (A := A) B (dfn_of X G c 9 9 rfl rfl)
  have c__law_payable := ok__law_payable (P := P) (w := w) (base := base) (A := A) B (dfn_of X G c 10 10 rfl rfl)
  have c__law_handed := ok__law_handed (P := P) (w := w) (base := base) (A := A) B (dfn_of X G c 11 11 rfl rfl)
  have c__law_pays := ok__law_pays (P := P) (w := w) (base := base) (A := A) B (dfn_of X G c 12 12 rfl rfl) c__law_handed c_pay c__law_integers
  exact okF_law (P := P) (w := w) (base := base) (A := A) B FL c__law_coins c__law_cell c__law_measure c__law_payable c__law_handed c_sure_amount c__law_is_integer c__law_row c__law_pays
theorem finish {f : Addr} (X : K.In h) (G : h.Ns mainGlobals mg) (hfa : mg ("law" : Str) = some (.ref f)) (Z : He.SaysX fa fn [] [] exB w h K) :
    ∃ (K : PySem.W.Frag) (fd : FuncData) (sp : Sp), K.In h ∧ (∀ (s : Shared) (u : Value), BindsTo s fd ⟨[u], []⟩ [("_law_script", u)]) ∧
      (∀ (H : Hp) (a : Addr) (ns : List Int), ns.length ≤ 63 → Only H → SqL K H a (ns.map V.int) → sp [.ref a] H (fun v _ => v = .bl true) fun _ _ _ => False) ∧
        ∀ base : Heap, K.In base → base.Ns mainGlobals mg → FnOk P w K mg base L2.CX0 4 f fd ["_law_script"] sp := by
  obtain ⟨fd, hb, hF⟩ := facts (P := P) (w := w) X G hfa Z
  let A : Ad := ⟨fun _ => 0, fun _ _ => none, fun _ _ => none, fun _ _ => false⟩
  refine ⟨K, fd, _, X, hb, fun H a ns hl _ hS => ⟨rfl, [.scr ns], H, ⟨⟨a, rfl, hS⟩, trivial⟩, fun _ _ h => h, ?_⟩, fun base _ _ => fn_calm (hF A base)⟩
  rw [law_true A ns hl]
  intro H0' H' g v r
  exact r
end
end Lh.P.Hd
open PySem PySem.W PySem.Calls PyProof.Rows
theorem PySem.Challenge.cw_lanternhouse_k32_coins_holds : PySem.Challenge.rw_lanternhouse_k32_coins.Holds := by
  w_on; o_law
  refine HandSHeadRun.head_imp (r := OpenLaw.row PySem.Challenge.rw_lanternhouse_k32_coins) (q := Lh.P.Hd.qv) (H := Lh.P.Hd.hk) (ob := Lh.P.Hd.ob) (M := 60000) (loose := Lh.P.Hd.names) (d := HandSHeadRun.topDef (OpenLaw.row PySem.Challenge.rw_lanternhouse_k32_coins).prog 17) (kwd := []) Lh.P.Hd.ob_eq
    Lh.P.Hd.run (by kernel_rfl) (by kernel_rfl) (by kernel_rfl) (by rfl) (by first | assumption | decide +kernel) (by decide +kernel) ⟨rfl, rfl, rfl, rfl, rfl, by decide +kernel⟩ ?hw ?hc
  case hw => w_witness2
  case hc =>
    refine L2.walk_ofE (l := PySem.Challenge.rw_lanternhouse_k32_coins) (n := 63) (k := 4) (x := "_law_script") (CX := L2.CX0) rfl (by decide) (by kernel_rfl) ⟨rfl, by decide, by decide⟩ ?F (fun _ _ _ _ z => z)
    intro w mg fa h Y G hmg0
    obtain ⟨K, KX, Z⟩ := Y
    have hmg : mg ("law" : PySem.Str) = some (.ref fa) := by
      have e : (HandSHeadRun.topDef (OpenLaw.row PySem.Challenge.rw_lanternhouse_k32_coins).prog 17).name = ("law" : PySem.Str) := by kernel_rfl
      rw [← e]
      exact hmg0
    exact Lh.P.Hd.finish KX G hmg Z
