import PyProof.Rows.All
import Wide.All
import OpenK.AllK
import Wide.FinOn
import HandS.Base
import HandS.Call
import HandS.List
import HandS.Comp
import HandS.Ends
import HandS.Dict
import HandS.Iter
import HandS.Text
import HandS.Words
import HandS.IsInst
import HandS.Style
import HandS.Walk
import HandS.TupAny
import HandS.More
import HandS.Exc
import HandS.ExcOwn
import HandS.ExcInit
import HandS.ExcField
import HandS.WordsExc
import HandS.Slots
import HandS.Star
import HandS.ClsMeth
import HandS.Property
import HandS.Deep
import HandS.Strs
import HandS.RaiseMore
import HandS.CallSlots
import KE.GoesMore
import PyProof.InstNe
import HandS.Conv
import HandS.Flow
import KE.DataFind
import HandS.OwnIter
import HandS.IterNext
import HandS.SortInts
import HandS.Codes
import HandS.TupMul
import HandS.HeadHook3
import PySem.Challenge.RW_pulledout_k05_rows_refused
set_option Elab.async false
set_option linter.all false
set_option maxRecDepth 100000
set_option maxHeartbeats 4000000
/-! What holds of no program alone: heaps, data at a value, a pool that is drawn from. -/
namespace GG
open PySem PySem.Spec PyProof.Rows L2 TL
theorem same_upd {H : Hp} {p : Addr} {o : HO} (h : H p = none) : Same H (upd H p o) := fun b x e => by
  rw [upd_ne (ne_of_none e h)]
  exact e
/-- behind a store into a new object all that stood before stands -/
theorem same_st {H H1 : Hp} {p : Addr} {o : HO} (s : Same H H1) (h : H p = none) : Same H (upd H1 p o) := fun b x e => by
  rw [upd_ne (ne_of_none e h)]
  exact s b x e
/-- each number lies below its size -/
def Below (zs ns : List Int) : Prop := ∀ (i : Nat) (z n : Int), zs[i]? = some z → ns[i]? = some n → 0 ≤ n ∧ n < z
theorem below_snoc {zs ns : List Int} {z n : Int} (h : Below zs ns) (hz : zs[ns.length]? = some z) (h0 : 0 ≤ n) (h1 : n < z) : Below zs (ns ++ [n]) := by
  intro i y m hy hm
  by_cases hi : i < ns.length
  · rw [List.getElem?_append_left hi] at hm
    exact h i y m hy hm
  · rw [List.getElem?_append_right (by omega)] at hm
    have e : i - ns.length = 0 := by
      have q := (List.getElem?_eq_some_iff.mp hm).1
      simp at q
      omega
    have ei : i = ns.length := by omega
    subst ei
    rw [e] at hm
    have em : n = m := Option.some.inj hm
    have ey : z = y := Option.some.inj (hz.symm.trans hy)
    subst em ey
    exact ⟨h0, h1⟩
theorem small_mod (x : Int) : (x % 2147483629).natAbs < 2 ^ 64 := by
  have h1 := Int.emod_nonneg x (show (2147483629 : Int) ≠ 0 by decide)
  have h2 := Int.emod_lt_of_pos x (show (0 : Int) < 2147483629 by decide)
  omega
/-! ### data -/
def tyName : PyData → String
  | .none => "NoneType"
  | .bool _ => "bool"
  | .int _ => "int"
  | .str _ => "str"
  | .list _ => "list"
  | .tuple _ => "tuple"
  | .dict _ => "dict"
def isTup : PyData → Bool
  | .tuple _ => true
  | _ => false
def isStr : PyData → Bool
  | .str _ => true
  | _ => false
theorem isi_tup {K : PySem.W.Frag} (d : PyData) : PySem.W.kitOne K (.type (tyName d)) (.type "tuple") = some (isTup d) := by
  cases d
  · exact kit_ty (show kitB "NoneType" "tuple" = some false by decide +kernel)
  · exact kit_ty (show kitB "bool" "tuple" = some false by decide +kernel)
  · exact kit_ty (show kitB "int" "tuple" = some false by decide +kernel)
  · exact kit_ty (show kitB "str" "tuple" = some false by decide +kernel)
  · exact kit_ty (show kitB "list" "tuple" = some false by decide +kernel)
  · exact kit_ty (show kitB "tuple" "tuple" = some true by decide +kernel)
  · exact kit_ty (show kitB "dict" "tuple" = some false by decide +kernel)
theorem isi_str {K : PySem.W.Frag} (d : PyData) : PySem.W.kitOne K (.type (tyName d)) (.type "str") = some (isStr d) := by
  cases d
  · exact kit_ty (show kitB "NoneType" "str" = some false by decide +kernel)
  · exact kit_ty (show kitB "bool" "str" = some false by decide +kernel)
  · exact kit_ty (show kitB "int" "str" = some false by decide +kernel)
  · exact kit_ty (show kitB "str" "str" = some true by decide +kernel)
  · exact kit_ty (show kitB "list" "str" = some false by decide +kernel)
  · exact kit_ty (show kitB "tuple" "str" = some false by decide +kernel)
  · exact kit_ty (show kitB "dict" "str" = some false by decide +kernel)
theorem Rd.same {H H' : Hp} {a : Addr} {o : HO} (s : Same H H') (h : Rd H a o) : Rd H' a o := by
  rcases h with h | ⟨u, h⟩
  · exact .inl (s _ _ h)
  · exact .inr ⟨u, s _ _ h⟩
theorem Same.seqT {K : PySem.W.Frag} {H H' : Hp} {a : Addr} {xs : List V} (e : Same H H') (h : SqT K H a xs) : SqT K H' a xs := by
  rcases h with h | h
  · exact .inl (Rd.same e h)
  · exact .inr h
mutual
theorem dp_same {K : PySem.W.Frag} {H H' : Hp} (e : Same H H') : ∀ (d : PyData) (v : V), Dp K H v d → Dp K H' v d
  | .none, _, h => by cases h; exact .non
  | .bool b, _, h => by cases h; exact .bl b
  | .int i, _, h => by cases h; exact .int i
  | .str x, _, h => by cases h; exact .str x
  | .list ds, _, h => by
    cases h with
    | lst hs ha => exact .lst (Same.seq e hs) (dpAll_same e ds _ ha)
  | .tuple ds, _, h => by
    cases h with
    | tup hs ha => exact .tup (Same.seqT e hs) (dpAll_same e ds _ ha)
  | .dict _, _, h => by cases h
theorem dpAll_same {K : PySem.W.Frag} {H H' : Hp} (e : Same H H') : ∀ (ds : List PyData) (vs : List V), DpAll K H vs ds → DpAll K H' vs ds
  | [], _, h => by cases h; exact .nil
  | d :: ds, _, h => by
    cases h with
    | cons h1 h2 => exact .cons (dp_same e d _ h1) (dpAll_same e ds _ h2)
end
theorem dpAll_len {K : PySem.W.Frag} {H : Hp} : ∀ {vs : List V} {ds : List PyData}, DpAll K H vs ds → vs.length = ds.length
  | _, _, .nil => rfl
  | _, _, .cons _ h => by rw [List.length_cons, List.length_cons, dpAll_len h]
theorem dpAll_get {K : PySem.W.Frag} {H : Hp} : ∀ {vs : List V} {ds : List PyData} {i : Nat} {v : V}, DpAll K H vs ds → vs[i]? = some v → ∃ d, ds[i]? = some d ∧ Dp K H v d
  | _, _, 0, _, .cons (d := d) h _, e => by
    have e : _ = _ := Option.some.inj e
    subst e
    exact ⟨d, rfl, h⟩
  | _, _, i + 1, _, .cons _ h, e => dpAll_get (i := i) h e
theorem dp_ty {K : PySem.W.Frag} {H : Hp} {v : V} {d : PyData} (h : Dp K H v d) : TyX K H v (.type (tyName d)) := by
  cases h with
  | non => exact .base .non
  | bl b => exact .base (.bl b)
  | int i => exact .base (.int i)
  | str x => exact .base (.str x)
  | lst hs _ =>
    rcases hs with (h | ⟨o, h⟩) | ⟨o, its, n, h1, h2, _⟩
    · exact .base (.lst h)
    · exact .base (.frz h)
    · exact .kList h1 h2
  | tup hs _ =>
    rcases hs with (h | ⟨o, h⟩) | ⟨o, its, n, h1, h2, _⟩
    · exact .base (.tup h)
    · exact .fTuple h
    · exact .kTuple h1 h2
mutual
/-- sane texts, nothing long -/
def okD : PyData → Bool
  | .str z => decide (z.length ≤ 1000) && z.cps.all (· < 0x110000)
  | .list ds | .tuple ds => decide (ds.length ≤ 1000) && okAll ds
  | .dict _ => false
  | _ => true
def okAll : List PyData → Bool
  | [] => true
  | d :: ds => okD d && okAll ds
end
mutual
theorem can_ok : ∀ d : PyData, okD d = true → PyData.canLay0 d = true
  | .none, _ => rfl
  | .bool _, _ => rfl
  | .int _, _ => rfl
  | .str z, h => (Bool.and_eq_true_iff.mp h).2
  | .list ds, h => canAll_ok ds (Bool.and_eq_true_iff.mp h).2
  | .tuple ds, h => canAll_ok ds (Bool.and_eq_true_iff.mp h).2
theorem canAll_ok : ∀ ds : List PyData, okAll ds = true → PyData.canLayAll0 ds = true
  | [], _ => rfl
  | d :: ds, h => by
    have h := Bool.and_eq_true_iff.mp h
    show (PyData.canLay0 d && PyData.canLayAll0 ds) = true
    rw [can_ok d h.1, canAll_ok ds h.2]
    rfl
end
theorem okAll_iff {ds : List PyData} : okAll ds = true ↔ ∀ d ∈ ds, okD d = true := by
  induction ds with
  | nil => simp [okAll]
  | cons d r ih => simp [okAll, ih]
theorem depthAll_le {ds : List PyData} {n : Nat} : PyData.depthAll ds ≤ n ↔ ∀ d ∈ ds, PyData.depth d ≤ n := by
  induction ds with
  | nil => simp [PyData.depthAll]
  | cons d r ih => simp [PyData.depthAll, ih, Nat.max_le]
def Good (n : Nat) (d : PyData) : Prop := okD d = true ∧ PyData.depth d ≤ n
theorem Good.lay {n : Nat} {d : PyData} (h : Good n d) (hn : n ≤ 64) : SeqAt.shaped d = true := by
  unfold SeqAt.shaped
  rw [Bool.and_eq_true, decide_eq_true_eq]
  exact ⟨can_ok d h.1, Nat.le_trans h.2 hn⟩
theorem Good.tup {n : Nat} {ds : List PyData} : Good (n + 1) (.tuple ds) ↔ ds.length ≤ 1000 ∧ ∀ d ∈ ds, Good n d := by
  unfold Good
  show (decide (ds.length ≤ 1000) && okAll ds) = true ∧ PyData.depthAll ds + 1 ≤ n + 1 ↔ _
  rw [Bool.and_eq_true, decide_eq_true_eq, okAll_iff, Nat.add_le_add_iff_right, depthAll_le]
  exact ⟨fun h => ⟨h.1.1, fun d hd => ⟨h.1.2 d hd, h.2 d hd⟩⟩, fun h => ⟨⟨h.1, fun d hd => (h.2 d hd).1⟩, fun d hd => (h.2 d hd).2⟩⟩
theorem Good.lst {n : Nat} {ds : List PyData} : Good (n + 1) (.list ds) ↔ ds.length ≤ 1000 ∧ ∀ d ∈ ds, Good n d := Good.tup
theorem Good.mono {n m : Nat} {d : PyData} (h : Good n d) (k : n ≤ m) : Good m d := ⟨h.1, Nat.le_trans h.2 k⟩
/-- a value that stands for the data d; or any dict -/
def Val (K : PySem.W.Frag) (H : Hp) (x : V) (d : PyData) : Prop := (Dp K H x d ∧ Good 60 d) ∨ (d = .dict [] ∧ ∃ (a : Addr) (kvs : List (Key × V)), x = .ref a ∧ H a = some (.dK kvs))
theorem Val.ty {K : PySem.W.Frag} {H : Hp} {x : V} {d : PyData} (h : Val K H x d) : TyX K H x (.type (tyName d)) := by
  rcases h with h | ⟨rfl, a, kvs, rfl, h⟩
  · exact dp_ty h.1
  · exact .base (.dK h)
theorem Val.str {K : PySem.W.Frag} {H : Hp} {x : V} {z : Str} (h : Val K H x (.str z)) : x = .str z ∧ z.length ≤ 1000 ∧ (∀ c ∈ z.cps.toList, c < 1114112) := by
  rcases h with ⟨h, g⟩ | ⟨h, _⟩
  · cases h
    obtain ⟨h1, h2⟩ := Bool.and_eq_true_iff.mp g.1
    refine ⟨rfl, of_decide_eq_true h1, fun c hc => ?_⟩
    rw [← Array.all_toList, List.all_eq_true] at h2
    exact of_decide_eq_true (h2 c hc)
  · cases h
theorem Val.tup {K : PySem.W.Frag} {H : Hp} {x : V} {ds : List PyData} (h : Val K H x (.tuple ds)) : ∃ (a : Addr) (xs : List V), x = .ref a ∧ SqT K H a xs ∧ DpAll K H xs ds ∧ xs.length = ds.length ∧ ds.length ≤ 1000 ∧ ∀ (i : Nat) (d : PyData), ds[i]? = some d → ∃ v, xs[i]? = some v ∧ Val K H v d := by
  rcases h with ⟨h, g⟩ | ⟨h, _⟩
  · cases h with
    | @tup a xs _ hs ha =>
      obtain ⟨g1, g2⟩ := (Good.tup (n := 59)).mp g
      have hl := dpAll_len ha
      refine ⟨_, _, rfl, hs, ha, hl, g1, fun i d hd => ?_⟩
      have hi : i < ds.length := (List.getElem?_eq_some_iff.mp hd).1
      have hi2 : i < xs.length := by omega
      obtain ⟨d', hd', hp⟩ := dpAll_get ha (List.getElem?_eq_getElem hi2)
      have e : d' = d := Option.some.inj (hd'.symm.trans hd)
      subst e
      exact ⟨_, List.getElem?_eq_getElem hi2, .inl ⟨hp, (g2 d' (List.mem_of_getElem? hd)).mono (by decide)⟩⟩
  · cases h
theorem Val.same {K : PySem.W.Frag} {H H' : Hp} {x : V} {d : PyData} (h : Val K H x d) (s : Same H H') : Val K H' x d := by
  rcases h with ⟨h, g⟩ | ⟨rfl, a, kvs, rfl, h⟩
  · exact .inl ⟨dp_same s d x h, g⟩
  · exact .inr ⟨rfl, a, kvs, rfl, s _ _ h⟩
theorem inV_words {z : Str} : ∀ ws : List Str, inV (.str z) (ws.map V.str) = ws.any (· == z) := fun ws => by
  unfold inV
  rw [List.any_map]
  rfl
theorem flat_words : ∀ ws : List Str, (ws.map V.str).all flatV = true := fun ws => by
  rw [List.all_map, List.all_eq_true]
  intro x _
  rfl
theorem yes_then {A B : Hp → Prop} {σ : L2.St} {H : Hp} (h : A H) : tYes σ H (fun b H3 => if b = true then A H3 else B H3) := by
  show (if true = true then A H else B H)
  rw [if_pos rfl]
  exact h
def letB (c : Nat) : Bool := !decide ([c] < [97]) && !decide ([122] < [c])
/-! ### the mathematics of the texts -/
/-- the 26 letters, as the law writes them -/
abbrev abcS : Str := "abcdefghijklmnopqrstuvwxyz"
theorem abc_list : abcS.cps.toList = (List.range 26).map (97 + ·) := by decide +kernel
theorem abc_mem (c : Nat) : c ∈ abcS.cps.toList ↔ 97 ≤ c ∧ c ≤ 122 := by
  rw [abc_list]
  simp only [List.mem_map, List.mem_range]
  constructor
  · rintro ⟨a, h, rfl⟩
    omega
  · intro h
    exact ⟨c - 97, by omega, by omega⟩
theorem one_lt (a b : Nat) : ([a] < [b]) ↔ a < b := by
  simp [List.cons_lt_cons_iff]
theorem letB_abc (c : Nat) : letB c = decide (c ∈ abcS.cps.toList) := by
  unfold letB
  rw [Bool.eq_iff_iff]
  simp only [Bool.and_eq_true, Bool.not_eq_true', decide_eq_false_iff_not, decide_eq_true_eq, one_lt, abc_mem]
  omega
/-- a text of Python's own signs -/
def Sane (z : Str) : Prop := ∀ c ∈ z.cps.toList, c < 1114112
theorem sane_odds {z : Str} (h : Sane z) : ∀ y ∈ (z.cps.toList.filter fun c => !decide (c ∈ abcS.cps.toList)).map (fun c => (⟨#[c]⟩ : Str)), Sane y := by
  intro y hy c hc
  obtain ⟨d, hd, rfl⟩ := List.mem_map.mp hy
  have e : c = d := by simpa using hc
  rw [e]
  exact h d ((List.mem_filter.mp hd).1)
def oddC (c : Nat) : Bool := !decide (c ∈ abcS.cps.toList)
def odds (cs : List Nat) : List Str := (cs.filter oddC).map fun c => ⟨#[c]⟩
theorem odds_snoc {cs : List Nat} {i c : Nat} (hc : cs[i]? = some c) : odds (cs.take (i + 1)) = odds (cs.take i) ++ (if oddC c = true then [⟨#[c]⟩] else []) := by
  unfold odds
  rw [List.take_add_one, hc, List.filter_append, List.map_append]
  congr 1
  show List.map _ (List.filter oddC [c]) = _
  cases h : oddC c <;> simp [h]
theorem odds_len (cs : List Nat) : (odds cs).length ≤ cs.length := by
  unfold odds
  rw [List.length_map]
  exact List.length_filter_le ..
theorem odds_nil (cs : List Nat) : (odds cs).isEmpty = cs.all letB := by
  unfold odds
  rw [List.isEmpty_map]
  induction cs with
  | nil => rfl
  | cons c r ih =>
    rw [List.filter_cons, List.all_cons, letB_abc, ← ih]
    unfold oddC
    cases decide (c ∈ abcS.cps.toList) <;> rfl
theorem dp_strs {K : PySem.W.Frag} {H : Hp} : ∀ ys : List Str, DpAll K H (ys.map V.str) (ys.map PyData.str)
  | [] => .nil
  | y :: r => .cons (.str y) (dp_strs r)
theorem strs_can : ∀ ys : List Str, (∀ y ∈ ys, Sane y) → PyData.canLayAll0 (ys.map PyData.str) = true ∧ PyData.depthAll (ys.map PyData.str) ≤ 1
  | [], _ => ⟨rfl, by decide⟩
  | y :: r, h => by
    obtain ⟨h1, h2⟩ := strs_can r fun z hz => h z (List.mem_cons_of_mem _ hz)
    refine ⟨?_, ?_⟩
    · show (PyData.canLay0 (PyData.str y) && PyData.canLayAll0 (r.map PyData.str)) = true
      rw [h1, Bool.and_true]
      show y.cps.all (· < 0x110000) = true
      rw [← Array.all_toList, List.all_eq_true]
      intro c hc
      exact decide_eq_true (h y (List.mem_cons_self ..) c hc)
    · show max (PyData.depth (PyData.str y)) (PyData.depthAll (r.map PyData.str)) ≤ 1
      exact Nat.max_le.mpr ⟨by simp [PyData.depth], h2⟩
theorem strs_lay (ys : List Str) (h : ∀ y ∈ ys, Sane y) : SeqAt.shaped (PyData.list (ys.map PyData.str)) = true := by
  obtain ⟨h1, h2⟩ := strs_can ys h
  unfold SeqAt.shaped
  rw [Bool.and_eq_true, decide_eq_true_eq]
  refine ⟨h1, ?_⟩
  show PyData.depthAll (ys.map PyData.str) + 1 ≤ 64
  omega
theorem strs_eqv (ys : List Str) : PyData.eqv (PyData.list (ys.map PyData.str)) (PyData.list []) = ys.isEmpty := by
  cases ys with
  | nil => rfl
  | cons y r => rfl
section
variable {K : PySem.W.Frag}
theorem Val.dp {H : Hp} {x : V} {ds : List PyData} (h : Val K H x (.tuple ds)) : Dp K H x (.tuple ds) ∧ Good 60 (.tuple ds) := by
  rcases h with h | ⟨h, _⟩
  · exact h
  · cases h
theorem eqv_unit (ds : List PyData) : PyData.eqv (.tuple ds) (.tuple []) = ds.isEmpty := by
  cases ds <;> rfl
theorem two {α : Type} {r : List α} (h : r.length = 2) : ∃ a b, r = [a, b] := by
  match r, h with
  | [a, b], _ => exact ⟨a, b, rfl⟩
theorem filt_snoc {es : List PyData} {i : Nat} {e : PyData} (h : es[i]? = some e) (g : PyData → Bool) : (es.take (i + 1)).filter g = (es.take i).filter g ++ (if g e = true then [e] else []) := by
  rw [List.take_add_one, h, List.filter_append]
  congr 1
  show List.filter g [e] = _
  cases k : g e <;> simp [k]
theorem filt_all (es : List PyData) (g : PyData → Bool) : (es.filter fun e => !g e).isEmpty = es.all g := by
  induction es with
  | nil => rfl
  | cons e r ih =>
    rw [List.filter_cons, List.all_cons, ← ih]
    cases k : g e <;> simp
theorem eqv_nil (es : List PyData) : PyData.eqv (.list es) (.list []) = es.isEmpty := by
  cases es <;> rfl
theorem dpAll_app {H : Hp} : ∀ {xs ys : List V} {ds es : List PyData}, DpAll K H xs ds → DpAll K H ys es → DpAll K H (xs ++ ys) (ds ++ es)
  | _, _, _, _, .nil, k => k
  | _, _, _, _, .cons h r, k => .cons h (dpAll_app r k)
theorem Val.dp1 {H : Hp} {x : V} {d : PyData} (h : Val K H x d) (k : ∀ e, d ≠ .dict e) : Dp K H x d := by
  rcases h with h | ⟨h, _⟩
  · exact h.1
  · exact absurd h (k _)
theorem okD_dict {d : PyData} (h : okD d = true) : ∀ e, d ≠ .dict e := by
  intro e k
  subst k
  cases h
/-! ### the pool: what stands apart from it -/
def Rest (p : Addr) (R H : Hp) : Prop := Same R H ∧ R p = none ∧ ∃ (d : Addr) (ns : List Int) (k : Int), H p = some (.lst [.ref d, .int k]) ∧ R d = some (.lst (ns.map V.int)) ∧ 0 ≤ k
def Keep (p : Addr) (H H' : Hp) : Prop := ∀ b, b ≠ p → ∀ o, H b = some o → H' b = some o
structure Go (p : Addr) (R H R' H' : Hp) : Prop where
  same : Same R R'
  rest : Rest p R' H'
  keep : Keep p H H'
  fresh : ∀ b o, H b = some o → R b = none → R' b = none
theorem Rest.go {p : Addr} {R H : Hp} (k : Rest p R H) : Go p R H R H := ⟨Same.refl _, k, fun _ _ _ h => h, fun _ _ _ h => h⟩
theorem Go.trans {p : Addr} {R H R1 H1 R2 H2 : Hp} (a : Go p R H R1 H1) (b : Go p R1 H1 R2 H2) : Go p R H R2 H2 :=
  ⟨a.same.trans b.same, b.rest, fun c hc o h => b.keep c hc o (a.keep c hc o h), fun c o h hr => by
    by_cases e : c = p
    · rw [e]
      exact b.rest.2.1
    · exact b.fresh c o (a.keep c e o h) (a.fresh c o h hr)⟩
theorem Rest.ne {p D : Addr} {R H : Hp} (k : Rest p R H) (h : H D = none) : D ≠ p := fun e => by
  obtain ⟨_, _, d, ns, n, hp, _⟩ := k
  rw [e, hp] at h
  cases h
theorem Go.new {p t : Addr} {R H : Hp} {o : HO} (k : Rest p R H) (h : H t = none) : Go p R H (upd R t o) (upd H t o) := by
  have hne := k.ne h
  obtain ⟨s, hRp, d, ns, n, hp, hd, hn⟩ := k
  refine ⟨same_upd (s.free h), ⟨fun b x e => ?_, ?_, d, ns, n, ?_, (same_upd (s.free h)) _ _ hd, hn⟩, fun b _ x e => same_upd h b x e, fun b x e hr => ?_⟩
  · by_cases hb : b = t
    · subst hb
      rw [upd_same] at e ⊢
      exact e
    · rw [upd_ne hb] at e ⊢
      exact s b x e
  · rw [upd_ne hne.symm]
    exact hRp
  · rw [upd_ne hne.symm]
    exact hp
  · rw [upd_ne (ne_of_none e h)]
    exact hr
theorem Go.same_heap {p : Addr} {R H H' : Hp} (k : Rest p R H) (s : Same H H') : Go p R H R H' := by
  obtain ⟨s0, hRp, d, ns, n, hp, hd, hn⟩ := k
  exact ⟨Same.refl _, ⟨s0.trans s, hRp, d, ns, n, s _ _ hp, hd, hn⟩, fun b _ o h => s b o h, fun _ _ _ h => h⟩
/-- a store into a list that is being made -/
theorem Rest.put {p D : Addr} {R H : Hp} {o : HO} (k : Rest p R H) (hR : R D = none) (hne : D ≠ p) : Rest p R (upd H D o) := by
  obtain ⟨s0, hRp, d, ns, n, hp, hd, hn⟩ := k
  exact ⟨same_st s0 hR, hRp, d, ns, n, by rw [upd_ne hne.symm]; exact hp, hd, hn⟩
theorem Dp.go {p : Addr} {R H R' H' : Hp} {v : V} {d : PyData} (g : Go p R H R' H') (h : Dp K R v d) : Dp K R' v d := dp_same g.same d v h
/-- a comprehension that draws -/
theorem lc_go {J : It} {n : Nat} {G : Hp → Prop} {Y : Nat → Hp → V → Hp → Prop} (wk : Walk J n G Y) {p : Addr} {R H : Hp} {D : Addr} (hn : n ≤ 1000) (k : Rest p R H) (hD : H D = none) (hG : ∀ R1 H1, Go p R H R1 H1 → G H1)
    (PP : Hp → V → Prop) (Pm : ∀ R1 R2 y, Same R1 R2 → PP R1 y → PP R2 y) {g : TG} {tt : TT} {te : TE} {vs : List Nat} {σ : L2.St} {Qd : Hp → Prop}
    (hs : ∀ i x R1 H1 H1', i < n → Go p R H R1 H1 → Y i H1 x H1' → ∀ (C : V → Hp → Prop) (E : Hp → Prop), (∀ R2 H2 y, Go p R1 H1 R2 H2 → PP R2 y → C y H2) →
      g x (wipe σ vs) H1' fun σ2 H2 => wipe σ2 vs = wipe σ vs ∧ tt σ2 H2 fun b H3 => if b = true then te σ2 H3 C else E H3)
    (hd : ∀ R1 H1 ys, Go p R H R1 H1 → R1 D = some (.lst ys) → ys.length = n → (∀ y ∈ ys, PP R1 y) → Qd H1) :
    ∃ W : Nat → Nat → Hp → Prop, (∃ m, W 0 m (upd H D (.lst []))) ∧ ∀ i m H, W i m H →
      (J.stop i H ∧ Qd H) ∨ (J.go i H ∧ ∃ Nx : Hp → Prop, (∀ H', Nx H' → ∃ m', m' < m ∧ W (i + 1) m' H') ∧ ∀ x H', J.yld i H x H' → g x (wipe σ vs) H' fun σ2 H2 => wipe σ2 vs = wipe σ vs ∧ tt σ2 H2 fun b H3 =>
        if b = true then te σ2 H3 fun y H4 => ∃ acc, H4 D = some (.lst acc) ∧ acc.length < sizeLine ∧ Nx (upd H4 D (.lst (acc ++ [y]))) else Nx H3) := by
  have hne := k.ne hD
  have hRD : R D = none := k.1.free hD
  refine lc_it wk (fun i H' => ∃ R1, Go p R H R1 H' ∧ R1 D = none ∧ ∃ ys : List V, H' D = some (.lst ys) ∧ ys.length = i ∧ ∀ y ∈ ys, PP R1 y) ?_ ?_ ?_ ?_
  · refine ⟨R, ⟨Same.refl _, k.put hRD hne, fun b _ x e => same_upd hD b x e, fun _ _ _ h => h⟩, hRD, [], upd_same, rfl, fun y h => by cases h⟩
  · rintro i H' _ ⟨R1, g1, _⟩
    exact hG R1 H' g1
  · rintro i x H1 H1' hi ⟨R1, g1, hR1, ys, hy, hl, hP⟩ hY
    refine hs i x R1 H1 H1' hi g1 hY _ _ fun R2 H2 y g2 hp => ⟨ys, g2.keep D hne _ hy, small1000 (by omega), R2, ?_, g2.fresh D _ hy hR1, ys ++ [y], upd_same, ?_, ?_⟩
    · have g3 := g1.trans g2
      refine ⟨g3.same, g3.rest.put (g2.fresh D _ hy hR1) hne, fun b hb x e => ?_, g3.fresh⟩
      rw [upd_ne (ne_of_none e hD)]
      exact g3.keep b hb x e
    · rw [List.length_append, List.length_singleton, hl]
    · intro u hu
      rw [List.mem_append, List.mem_singleton] at hu
      rcases hu with hu | rfl
      · exact Pm R1 R2 u g2.same (hP u hu)
      · exact hp
  · rintro H1 ⟨R1, g1, hR1, ys, hy, hl, hP⟩
    have e1 : Same R1 (upd R1 D (.lst ys)) := same_upd hR1
    refine hd (upd R1 D (.lst ys)) H1 ys ⟨g1.same.trans e1, ?_, g1.keep, fun b o e hr => ?_⟩ upd_same hl fun y h => Pm _ _ y e1 (hP y h)
    · obtain ⟨s0, hRp, d, ns, n, hp, hd, hn⟩ := g1.rest
      refine ⟨fun b x e => ?_, by rw [upd_ne hne.symm]; exact hRp, d, ns, n, hp, e1 _ _ hd, hn⟩
      by_cases hb : b = D
      · subst hb
        rw [upd_same] at e
        rw [hy, e]
      · rw [upd_ne hb] at e
        exact s0 b x e
    · rw [upd_ne (ne_of_none e hD)]
      exact g1.fresh b o e hr
theorem at_int {xs : List V} {r : Int} (h0 : 0 ≤ r) (hi : r.toNat < xs.length) : ∃ v, atI xs r = some v ∧ v ∈ xs := by
  have e := atI_nat (List.getElem?_eq_getElem hi)
  rw [Int.toNat_of_nonneg h0] at e
  exact ⟨_, e, List.getElem_mem hi⟩
/-! ### data while the pool is drawn from -/
def cutG {α : Type} (ds : List α) (lo hi : Option Int) : List α := (ds.drop (HT.sIx ds.length 0 lo)).take (HT.sIx ds.length ds.length hi - HT.sIx ds.length 0 lo)
theorem dpAll_drop {H : Hp} : ∀ (n : Nat) {vs : List V} {ds : List PyData}, DpAll K H vs ds → DpAll K H (vs.drop n) (ds.drop n)
  | 0, _, _, h => h
  | n + 1, _, _, .nil => .nil
  | n + 1, _, _, .cons _ h => dpAll_drop n h
theorem dpAll_take {H : Hp} : ∀ (n : Nat) {vs : List V} {ds : List PyData}, DpAll K H vs ds → DpAll K H (vs.take n) (ds.take n)
  | 0, _, _, _ => .nil
  | n + 1, _, _, .nil => .nil
  | n + 1, _, _, .cons h r => .cons h (dpAll_take n r)
theorem dpAll_cut {H : Hp} {vs : List V} {ds : List PyData} (h : DpAll K H vs ds) (lo hi : Option Int) : DpAll K H (cutV vs lo hi) (cutG ds lo hi) := by
  have e := dpAll_len h
  unfold cutV cutG
  rw [e]
  exact dpAll_take _ (dpAll_drop _ h)
theorem cutG_mem {ds : List PyData} {lo hi : Option Int} {d : PyData} (h : d ∈ cutG ds lo hi) : d ∈ ds := List.mem_of_mem_drop (List.mem_of_mem_take h)
theorem cutG_len (ds : List PyData) (lo hi : Option Int) : (cutG ds lo hi).length ≤ ds.length := by
  unfold cutG
  rw [List.length_take, List.length_drop]
  omega
theorem cat_ok {p : Addr} {R H : Hp} {v u : V} {ds es : List PyData} {Q : VK} (k : Rest p R H) (hv : Dp K R v (.tuple ds)) (hu : Dp K R u (.tuple es)) (hl : ds.length + es.length ≤ 1000)
    (hq : ∀ x R' H', Go p R H R' H' → Dp K R' x (.tuple (ds ++ es)) → Q x H') : rCatA K v u H Q := by
  cases hv with
  | @tup a xs _ hs ha =>
    cases hu with
    | @tup b ys _ ht hb =>
      have l1 := dpAll_len ha
      have l2 := dpAll_len hb
      refine ⟨a, b, xs, ys, rfl, rfl, Same.seqT k.1 hs, Same.seqT k.1 ht, Nat.le_of_lt (small1000 (by omega)), fun e => ?_, fun _ e => ?_, fun _ _ t ht => ?_⟩
      · have e2 : ds = [] := List.eq_nil_of_length_eq_zero (by rw [← l1, e]; rfl)
        have := hq (.ref b) R H k.go
        rw [e2] at this
        exact this (.tup ht hb)
      · have e2 : es = [] := List.eq_nil_of_length_eq_zero (by rw [← l2, e]; rfl)
        have := hq (.ref a) R H k.go
        rw [e2, List.append_nil] at this
        exact this (.tup hs ha)
      · exact hq _ _ _ (Go.new k ht) (.tup (.inl (.inl upd_same)) (dpAll_same (Go.new k ht).same _ _ (dpAll_app ha hb)))
theorem slice_ok {p : Addr} {R H : Hp} {v : V} {ds : List PyData} {lo hi : Option Int} {Q : VK} (k : Rest p R H) (hv : Dp K R v (.tuple ds))
    (hq : ∀ x R' H', Go p R H R' H' → Dp K R' x (.tuple (cutG ds lo hi)) → Q x H') : rSlA K v lo hi H Q := by
  cases hv with
  | @tup a xs _ hs ha =>
    have l1 := dpAll_len ha
    refine ⟨a, xs, rfl, Same.seqT k.1 hs, fun e => ?_, fun _ t ht => ?_⟩
    · have e2 : cutG ds lo hi = ds := by
        unfold cutG
        rw [← l1, e.1, e.2, l1]
        show (ds.drop 0).take (ds.length - 0) = ds
        rw [List.drop_zero, Nat.sub_zero, List.take_length]
      have := hq (.ref a) R H k.go
      rw [e2] at this
      exact this (.tup hs ha)
    · exact hq _ _ _ (Go.new k ht) (.tup (.inl (.inl upd_same)) (dpAll_same (Go.new k ht).same _ _ (dpAll_cut ha lo hi)))
theorem slice_lo {p : Addr} {R H : Hp} {v : V} {ds : List PyData} {lo : Option Int} {σ : L2.St} {Q : VK} (k : Rest p R H) (hv : Dp K R v (.tuple ds))
    (hq : ∀ x R' H', Go p R H R' H' → Dp K R' x (.tuple (cutG ds lo none)) → Q x H') : tNoPart σ H (fun u H3 => rSlA K v lo u H3 Q) := slice_ok (hi := none) k hv hq
theorem lst_raw {p t : Addr} {R H : Hp} (vs : List V) (k : Rest p R H) (ht : H t = none) : Go p R H (upd R t (.lst vs)) (upd H t (.lst vs)) ∧ (upd R t (.lst vs)) t = some (.lst vs) := ⟨Go.new k ht, upd_same⟩
theorem tup_new {p t : Addr} {R H : Hp} {vs : List V} {ds : List PyData} (k : Rest p R H) (ht : H t = none) (hv : DpAll K R vs ds) : Go p R H (upd R t (.tup vs)) (upd H t (.tup vs)) ∧ Dp K (upd R t (.tup vs)) (.ref t) (.tuple ds) :=
  ⟨Go.new k ht, .tup (.inl (.inl upd_same)) (dpAll_same (Go.new (o := .tup vs) k ht).same _ _ hv)⟩
theorem lst_new {p t : Addr} {R H : Hp} {vs : List V} {ds : List PyData} (k : Rest p R H) (ht : H t = none) (hv : DpAll K R vs ds) : Go p R H (upd R t (.lst vs)) (upd H t (.lst vs)) ∧ Dp K (upd R t (.lst vs)) (.ref t) (.list ds) :=
  ⟨Go.new k ht, .lst (.inl (.inl upd_same)) (dpAll_same (Go.new (o := .lst vs) k ht).same _ _ hv)⟩
/-- some data of moderate size -/
def PD (K : PySem.W.Frag) (n : Nat) (R : Hp) (x : V) : Prop := ∃ d, Dp K R x d ∧ Good n d
theorem PD.same {n : Nat} {R R' : Hp} {x : V} (h : PD K n R x) (s : Same R R') : PD K n R' x := by
  obtain ⟨d, h, g⟩ := h
  exact ⟨d, dp_same s d x h, g⟩
theorem PD.mono {n m : Nat} {R : Hp} {x : V} (h : PD K n R x) (k : n ≤ m) : PD K m R x := by
  obtain ⟨d, h, g⟩ := h
  exact ⟨d, h, g.mono k⟩
theorem good_str {z : Str} (h : z.length ≤ 1000) (s : Sane z) (n : Nat) : Good n (.str z) := by
  refine ⟨?_, Nat.zero_le _⟩
  show (decide (z.length ≤ 1000) && z.cps.all (· < 0x110000)) = true
  rw [decide_eq_true h, Bool.true_and, ← Array.all_toList, List.all_eq_true]
  exact fun c hc => decide_eq_true (s c hc)
theorem good_t {n : Nat} {ds : List PyData} (h : ds.length ≤ 1000) (g : ∀ d ∈ ds, Good n d) : Good (n + 1) (.tuple ds) := Good.tup.mpr ⟨h, g⟩
end
theorem ints_can : ∀ ns : List Int, PyData.canLayAll0 (ns.map PyData.int) = true ∧ PyData.depthAll (ns.map PyData.int) ≤ 1
  | [] => ⟨rfl, by decide⟩
  | y :: r => by
    obtain ⟨h1, h2⟩ := ints_can r
    refine ⟨?_, ?_⟩
    · show (PyData.canLay0 (PyData.int y) && PyData.canLayAll0 (r.map PyData.int)) = true
      rw [h1]
      rfl
    · show max (PyData.depth (PyData.int y)) (PyData.depthAll (r.map PyData.int)) ≤ 1
      exact Nat.max_le.mpr ⟨by simp [PyData.depth], h2⟩
theorem ints_lay (ns : List Int) : SeqAt.shaped (PyData.list (ns.map PyData.int)) = true := by
  obtain ⟨h1, h2⟩ := ints_can ns
  unfold SeqAt.shaped
  rw [Bool.and_eq_true, decide_eq_true_eq]
  refine ⟨h1, ?_⟩
  show PyData.depthAll (ns.map PyData.int) + 1 ≤ 64
  omega
theorem dp_ints {K : PySem.W.Frag} {H : Hp} : ∀ ys : List Int, DpAll K H (ys.map V.int) (ys.map PyData.int)
  | [] => .nil
  | y :: r => .cons (.int y) (dp_ints r)
theorem same_of {H H1 : Hp} {p : Addr} {o : HO} (s : Same H H1) (h : H1 p = none) : Same H (upd H1 p o) := s.trans (same_upd h)
theorem joinL_mem : ∀ (ls : List (List Nat)) (c : Nat), c ∈ joinL [] ls → ∃ l ∈ ls, c ∈ l
  | [], c, h => by cases h
  | [l], c, h => ⟨l, List.mem_cons_self .., h⟩
  | l :: m :: r, c, h => by
    have h : c ∈ l ++ ([] ++ joinL [] (m :: r)) := h
    rw [List.nil_append, List.mem_append] at h
    rcases h with h | h
    · exact ⟨l, List.mem_cons_self .., h⟩
    · obtain ⟨x, hx, hc⟩ := joinL_mem (m :: r) c h
      exact ⟨x, List.mem_cons_of_mem _ hx, hc⟩
theorem joinL_len : ∀ (ls : List (List Nat)), (joinL [] ls).length = (ls.map List.length).sum
  | [] => rfl
  | [l] => by show l.length = _; simp
  | l :: m :: r => by
    show (l ++ ([] ++ joinL [] (m :: r))).length = _
    rw [List.nil_append, List.length_append, joinL_len (m :: r)]
    rfl
theorem join_facts (ys : List Str) (h : ∀ y ∈ ys, y.length = 1 ∧ Sane y) : (Txt.join "" ys).length = ys.length ∧ Sane (Txt.join "" ys) := by
  have e : (Txt.join "" ys).cps.toList = joinL [] (ys.map tl) := by
    rw [join_eq]
    exact tl_join "" ys
  refine ⟨?_, ?_⟩
  · show (Txt.join "" ys).cps.size = ys.length
    rw [← Array.length_toList, e, joinL_len, List.map_map]
    clear e
    induction ys with
    | nil => rfl
    | cons y r ih =>
      rw [List.map_cons, List.sum_cons, List.length_cons, ih fun z hz => h z (List.mem_cons_of_mem _ hz)]
      have e1 : (List.length ∘ tl) y = 1 := by
        show y.cps.toList.length = 1
        rw [Array.length_toList]
        exact (h y (List.mem_cons_self ..)).1
      rw [e1]
      omega
  · intro c hc
    rw [e] at hc
    obtain ⟨l, hl, hcl⟩ := joinL_mem _ c hc
    obtain ⟨y, hy, rfl⟩ := List.mem_map.mp hl
    exact (h y hy).2 c hcl
theorem join_le (ys : List Str) (h : ∀ y ∈ ys, y.length = 1) : (ys.map (·.length)).sum = ys.length := by
  induction ys with
  | nil => rfl
  | cons y r ih =>
    rw [List.map_cons, List.sum_cons, List.length_cons, ih fun z hz => h z (List.mem_cons_of_mem _ hz), h y (List.mem_cons_self ..)]
    omega
theorem cut_mem {xs : List V} {lo hi : Option Int} {x : V} {i : Nat} (h : (cutV xs lo hi)[i]? = some x) : x ∈ xs := by
  have h1 := List.mem_of_getElem? h
  unfold cutV at h1
  exact List.mem_of_mem_drop (List.mem_of_mem_take h1)
theorem at_abc {r : Int} (h0 : 0 ≤ r) (h1 : r < 26) : ∃ c, atI abcS.cps.toList r = some c ∧ c < 1114112 := by
  have hl : abcS.cps.toList.length = 26 := by decide +kernel
  have hi : r.toNat < abcS.cps.toList.length := by omega
  have e := atI_nat (List.getElem?_eq_getElem hi)
  rw [Int.toNat_of_nonneg h0] at e
  refine ⟨_, e, ?_⟩
  have := (abc_mem _).mp (List.getElem_mem hi)
  omega
section
variable {K : PySem.W.Frag}
theorem pd_all {n : Nat} {R : Hp} : ∀ {ys : List V}, (∀ y ∈ ys, PD K n R y) → ∃ ds, DpAll K R ys ds ∧ ∀ d ∈ ds, Good n d
  | [], _ => ⟨[], .nil, fun d h => by cases h⟩
  | y :: ys, h => by
    obtain ⟨d, h1, h2⟩ := h y (List.mem_cons_self ..)
    obtain ⟨ds, h3, h4⟩ := pd_all fun z hz => h z (List.mem_cons_of_mem _ hz)
    refine ⟨d :: ds, .cons h1 h3, fun e he => ?_⟩
    rcases List.mem_cons.mp he with rfl | he
    · exact h2
    · exact h4 e he
theorem signs_of : ∀ {ys : List V}, (∀ y ∈ ys, ∃ c : Nat, y = .str ⟨#[c]⟩ ∧ c < 1114112) → ∃ zs : List Str, ys = zs.map V.str ∧ zs.length = ys.length ∧ ∀ z ∈ zs, z.length = 1 ∧ Sane z
  | [], _ => ⟨[], rfl, rfl, fun z h => by cases h⟩
  | y :: ys, h => by
    obtain ⟨c, rfl, hc⟩ := h y (List.mem_cons_self ..)
    obtain ⟨zs, h3, h4, h5⟩ := signs_of fun z hz => h z (List.mem_cons_of_mem _ hz)
    refine ⟨⟨#[c]⟩ :: zs, by rw [h3]; rfl, by rw [List.length_cons, List.length_cons, h4], fun e he => ?_⟩
    rcases List.mem_cons.mp he with rfl | he
    · exact ⟨rfl, fun x hx => by
        have : x = c := by simpa using hx
        omega⟩
    · exact h5 e he
theorem mem_app {P : V → Prop} {a b c : List V} (e : a ++ b = c) (h1 : ∀ y ∈ a, P y) (h2 : ∀ y ∈ b, P y) : ∀ y ∈ c, P y := fun y h => by
  rw [← e] at h
  exact (List.mem_append.mp h).elim (h1 y) (h2 y)
end
theorem vals_abs : ∀ (us : List Value) (xs : List V), us.map absV = xs.map some → Vals xs us
  | [], [], _ => .nil
  | [], _ :: _, h => by cases h
  | _ :: _, [], h => by cases h
  | u :: us, x :: xs, h => by
    rw [List.map_cons, List.map_cons, List.cons.injEq] at h
    refine .cons ?_ (vals_abs us xs h.2)
    have h1 := h.1
    cases u <;> simp only [absV] at h1 <;> cases h1 <;> first | rfl | exact ⟨_, rfl⟩
theorem tup_of {K : PySem.W.Frag} {a : Addr} {od : Option Addr} {its : Array Value} {n : Nat} {sl : Array (Option Value)} {ws : List Str} (h : K.lookup a = some ⟨.type "tuple", od, .seq its n, sl⟩) (hv : its.toList.map absV = (ws.map V.str).map some) (hl : ws.length ≤ 1000) : ∀ H, SqT K H a (ws.map V.str) := fun H => by
  have r := vals_abs its.toList _ hv
  refine .inr ⟨_, its, n, h, rfl, rfl, ?_, r⟩
  have e := r.length
  simp only [List.length_map, Array.length_toList] at e
  exact Nat.le_of_lt (small1000 (by rw [← e]; exact hl))
end GG

/-! Objects of a program's own classes: made with a star, methods whose exceptions are wished for at the caller's slots, static methods, len, places in tuples of data, counts of texts, repr of what is flat. -/
namespace OO
open PySem PySem.Spec PyProof.Rows L2
theorem pat {CX : CXT} {X : Cx} {E : XK} (h : Passes CX X E) : ∀ σ : L2.St, PassesAt CX X σ ((fun _ => E) σ) := fun σ pins H s e s' I c => h pins σ H s e s' I c
section
variable {X : Cx} {CX : CXT} {k : Nat} {f C p g : Addr} {mc : Value} {sp : Sp} {E : L2.St → XK} {x m : Str} {e o : Expr} {es : List Expr} {te ta : TE} {t : TA} {q sp_ pos apos : Pos} {pl : Sem Bool} {pins : List (Addr × Obj)} {σ : L2.St} {H : Hp} {s : Shared}
theorem run_fnRS {Q : VK} {us : List Value} {vs : List V} (F : FnR X.prog X.w X.K X.mg X.base CX k f sp) (hr : Room k X.A) (hx : PassesAt CX X σ (E σ)) (I : Inv X pins σ H s) (r : Vals vs us) (h : sp vs H Q (E σ)) :
    codeAny (model X.prog X.w) X.A (.call (.ref f) ⟨us, []⟩) (fun r s' => match r with | .ok (.ret v) => EP X pins σ Q v s' | .ok _ => False | .error e => X.xe e s') s := by
  refine codeAny_mono (F X.A X.stack s H us vs Q (E σ) hr I.env0 r h) fun r s' hq => ?_
  cases r with
  | error e => exact hx pins H s e s' I hq
  | ok fl =>
    cases fl with
    | ret u => exact I.after hq
    | next => exact False.elim hq
    | brk => exact False.elim hq
    | cont => exact False.elim hq
/-- f(e, ..) by a positional promise -/
def tCallRS (sp : Sp) (E : L2.St → XK) (t : TA) : TE := fun σ H Q => t σ H fun vs H1 => sp vs H1 Q (E σ)
theorem pe_callRS (F : FnR X.prog X.w X.K X.mg X.base CX k f sp) (hr : Room k X.A) (hg : Gl X x) (hm : X.mg x = some (.ref f)) (hk : PySem.W.keepIn X.K (.ref f) = true) (hx : ∀ σ, PassesAt CX X σ (E σ))
    (ha : PA X (e :: es) t) (hdb : (x == ("__debug__" : Str)) = false := by decide) (he : starEach (e :: es) X.env = (false, eval e X.env) :: starEach es X.env := by rfl) (hpl : (backTo pos (starEach es X.env)).any (·.1) = false := by rfl) :
    PE X (.Call (.Name x q) (e :: es) [] pos) (tCallRS sp E t) := by
  refine ⟨fun pins s σ H Q I h => ?_⟩
  refine wpAny_Call_Name_kw (ld_glob I hg hm ?_ hdb)
  refine PySem.W.callWith_K (h₀ := X.base) I.ok.mod.kin hk (thn (ha.run pos pins s σ H _ I h) fun us s1 ⟨vs, H1, I1, r, q⟩ => ⟨I1.kIn, ?_⟩) he hpl
  exact wpAny_call (run_fnRS F hr (hx σ) I1 r q)
/-- o.m(e, ..) -/
def tMethRS (C : Addr) (m : Str) (sp : Sp) (E : L2.St → XK) (ta : TE) (t : TA) : TE := fun σ H Q => ta σ H fun x H1 => ∃ a dx fs, x = .ref a ∧ H1 a = some (.ins C dx fs) ∧ fs.lookup m = none ∧ t σ H1 fun vs H2 => sp (x :: vs) H2 Q (E σ)
theorem pe_methRS (he : PE X o ta) (c : Cls X.K C) (hm : Meth X.K C m f) (F : FnR X.prog X.w X.K X.mg X.base CX k f sp) (hr : Room k X.A) (hx : ∀ σ, PassesAt CX X σ (E σ)) (ha : PA X (e :: es) t)
    (hst : starEach (e :: es) X.env = (false, eval e X.env) :: starEach es X.env := by rfl) (hpl : (backTo pos (starEach es X.env)).any (·.1) = false := by rfl)
    (ht : eval (.Call (.Attribute o m apos) (e :: es) [] pos) X.env = (do
      let ov ← eval o X.env
      standAt apos.atName
      let (f, first) ← holding [ov] (getMethod ov m pl)
      callWith pos f first (backTo pos (starEach (e :: es) X.env)) (backToKw pos (keywordEach [] X.env))) := by rfl) :
    PE X (.Call (.Attribute o m apos) (e :: es) [] pos) (tMethRS C m sp E ta t) := by
  refine ⟨fun pins s σ H Q I h => ?_⟩
  refine PySem.W.methodCall_KW (pl := pl) (thn (he.run pins s σ H _ I h) fun u s1 ⟨x, H1, I1, rx, a, dx, fs, ex, ea, l, q⟩ => ?_) ht
  subst ex
  obtain rfl : u = Value.ref a := rx
  refine getmeth_ok I1 ea c hm l ?_
  refine PySem.W.callWith_K (first := [.ref a]) (h₀ := X.base) I.ok.mod.kin hm.kp (thn (ha.run pos pins s1 σ H1 _ I1 q) fun us s2 ⟨vs, H2, I2, r, q2⟩ => ⟨I2.kIn, ?_⟩) hst hpl
  exact wpAny_call (run_fnRS (us := .ref a :: us) (vs := .ref a :: vs) F hr (hx σ) I2 (.cons rfl r) q2)
/-- C.m is a static method: its record at p, its def at g -/
structure SMet (K : PySem.W.Frag) (C : Addr) (mc : Value) (m : Str) (p g : Addr) : Prop where
  at_ : PySem.W.findCls K (.ref C) mc m = some (.get (.builtin "staticmethod.__get__") (.ref p) .none (.ref C))
  rc : ∃ rest, PySem.W.recIn K p "staticmethod" = some (.ref g :: rest)
  kp : PySem.W.keepIn K (.ref g) = true
theorem getsm_ok {A : Around} {E : Value → Shared → Prop} {b : Bool} {Q : Value → Shared → Prop} (I : Inv X pins σ H s) (r : ClX.CRead X.K C mc) (k : SMet X.K C mc m p g) (h : ∀ s', Inv X pins σ H s' → Q (.ref g) s') : wpAny (model X.prog X.w) A (getAttr (.ref C) m b) Q E s := by
  obtain ⟨rest, hp⟩ := k.rc
  refine PySem.W.cls_bind I.kIn r.rd k.at_ ?_
  exact wpAny_call (PySem.W.sm_get (s := { s with toks := s.toks + 1 }) I.kIn hp (PySem.W.handed_on rfl (h _ (I.tok _))))
/-- C.m(e, ..) -/
def tSMethS (C : Addr) (sp : Sp) (E : L2.St → XK) (ta : TE) (t : TA) : TE := fun σ H Q => ta σ H fun x H1 => x = .ref C ∧ t σ H1 fun vs H2 => sp vs H2 Q (E σ)
theorem pe_smethS (he : PE X o ta) (r : ClX.CRead X.K C mc) (c : SMet X.K C mc m p g) (F : FnR X.prog X.w X.K X.mg X.base CX k g sp) (hr : Room k X.A) (hx : ∀ σ, PassesAt CX X σ (E σ)) (ha : PA X (e :: es) t)
    (hst : starEach (e :: es) X.env = (false, eval e X.env) :: starEach es X.env := by rfl) (hpl : (backTo pos (starEach es X.env)).any (·.1) = false := by rfl)
    (ht : eval (.Call (.Attribute o m apos) (e :: es) [] pos) X.env = (do
      let ov ← eval o X.env
      standAt apos.atName
      let (f, first) ← holding [ov] (getMethod ov m pl)
      callWith pos f first (backTo pos (starEach (e :: es) X.env)) (backToKw pos (keywordEach [] X.env))) := by rfl) :
    PE X (.Call (.Attribute o m apos) (e :: es) [] pos) (tSMethS C sp E ta t) := by
  refine ⟨fun pins s σ H Q I h => ?_⟩
  refine PySem.W.methodCall_KW (pl := pl) (thn (he.run pins s σ H _ I h) fun u s1 ⟨x, H1, I1, rx, ex, q⟩ => ?_) ht
  subst ex
  obtain rfl : u = Value.ref C := rx
  refine PySem.W.method_cls I1.kIn r.ga (getsm_ok I1 r c fun s2 I2 => ?_)
  refine PySem.W.callWith_K (first := []) (h₀ := X.base) I.ok.mod.kin c.kp (thn (ha.run pos pins s2 σ H1 _ I2 q) fun us s3 ⟨vs, H2, I3, r3, q2⟩ => ⟨I3.kIn, ?_⟩) hst hpl
  exact wpAny_call (run_fnRS F hr (hx σ) I3 r3 q2)
/-- C( *y), C(e, ..), C(): by a positional promise of __init__ -/
theorem run_makeRS {Q : VK} {us : List Value} {vs : List V} (M : Mk X.K C f) (F : FnR X.prog X.w X.K X.mg X.base CX k f sp) (hr : Room (k + 1) X.A) (hx : PassesAt CX X σ (E σ)) (I : Inv X pins σ H s) (r : Vals vs us)
    (h : ∀ x dx, H x = Option.none → H dx = Option.none → dx ≠ x → sp (V.ref x :: vs) (upd (upd H dx (.own x)) x (.ins C dx [])) (fun v H2 => v = .non ∧ Q (.ref x) H2) (E σ)) :
    wpAny (model X.prog X.w) X.A (call (.ref C) us) (EP X pins σ Q) X.xe s := by
  have hq := h (s.heap.objs.size + 1) s.heap.objs.size (I.hok.fresh (Nat.le_succ _)) (I.hok.fresh (Nat.le_refl _)) (Nat.ne_of_lt (Nat.lt_succ_self _))
  have I2 := Inv.made (C := C) I
  have r2 : Vals (V.ref (s.heap.objs.size + 1) :: vs) (Value.ref (s.heap.objs.size + 1) :: us) := .cons rfl r
  refine wpAny_call (make_map (f := f) I.kIn M.makes M.init (beq_iff_eq.mp M.fn) (codeAny_mono (F _ X.stack _ _ (Value.ref (s.heap.objs.size + 1) :: us) _ _ (E σ) (hr.make C us []) (I2.env0.make C us []) r2 hq) fun r s' hq' => ?_))
  cases r with
  | error e => exact hx pins _ _ e s' I2 hq'
  | ok fl =>
    cases fl with
    | ret u =>
      obtain ⟨v, H', I3, rv, ev, q3⟩ := I2.after hq'
      subst ev
      exact ⟨rv, ⟨V.ref (s.heap.objs.size + 1), H', I3, rfl, q3⟩⟩
    | next => exact False.elim hq'
    | brk => exact False.elim hq'
    | cont => exact False.elim hq'
def tMakeRS (C : Addr) (sp : Sp) (E : L2.St → XK) (t : TA) : TE := fun σ H Q => t σ H fun vs H1 => ∀ x dx, H1 x = Option.none → H1 dx = Option.none → dx ≠ x →
  sp (V.ref x :: vs) (upd (upd H1 dx (.own x)) x (.ins C dx [])) (fun v H2 => v = .non ∧ Q (.ref x) H2) (E σ)
theorem pe_makeRS (M : Mk X.K C f) (F : FnR X.prog X.w X.K X.mg X.base CX k f sp) (hr : Room (k + 1) X.A) (hg : Gl X x) (hm : X.mg x = some (.ref C)) (hx : ∀ σ, PassesAt CX X σ (E σ)) (ha : PA X (e :: es) t) (hdb : (x == ("__debug__" : Str)) = false := by decide)
    (he : starEach (e :: es) X.env = (false, eval e X.env) :: starEach es X.env := by rfl) (hpl : (backTo pos (starEach es X.env)).any (·.1) = false := by rfl) : PE X (.Call (.Name x q) (e :: es) [] pos) (tMakeRS C sp E t) := by
  refine ⟨fun pins s σ H Q I h => ?_⟩
  refine wpAny_Call_Name_kw (ld_glob I hg hm ?_ hdb)
  refine PySem.W.callWith_K (h₀ := X.base) I.ok.mod.kin M.kp (thn (ha.run pos pins s σ H _ I h) fun us s1 ⟨vs, H1, I1, r, q⟩ => ⟨I1.kIn, ?_⟩) he hpl
  exact run_makeRS M F hr (hx σ) I1 r q
theorem pe_makeRS0 (M : Mk X.K C f) (F : FnR X.prog X.w X.K X.mg X.base CX k f sp) (hr : Room (k + 1) X.A) (hg : Gl X x) (hm : X.mg x = some (.ref C)) (hx : ∀ σ, PassesAt CX X σ (E σ)) (hdb : (x == ("__debug__" : Str)) = false := by decide) :
    PE X (.Call (.Name x q) [] [] pos) (tMakeRS C sp E tNil) := by
  refine ⟨fun pins s σ H Q I h => ?_⟩
  refine wpAny_Call_Name_kw (ld_glob I hg hm ?_ hdb)
  exact PySem.W.callWith_K0 I.kIn M.kp (run_makeRS (us := []) M F hr (hx σ) I .nil h)
def tMakeSt (K : PySem.W.Frag) (C : Addr) (sp : Sp) (E : L2.St → XK) (te : TE) : TE := fun σ H Q => te σ H fun y H1 => ∃ a xs, y = V.ref a ∧ (SqT K H1 a xs ∨ SqL K H1 a xs) ∧ ∀ x dx, H1 x = Option.none → H1 dx = Option.none → dx ≠ x →
  sp (V.ref x :: xs) (upd (upd H1 dx (.own x)) x (.ins C dx [])) (fun v H2 => v = .non ∧ Q (.ref x) H2) (E σ)
theorem pe_makeSt (M : Mk X.K C f) (F : FnR X.prog X.w X.K X.mg X.base CX k f sp) (hr : Room (k + 1) X.A) (hg : Gl X x) (hm : X.mg x = some (.ref C)) (hx : ∀ σ, PassesAt CX X σ (E σ)) (he : PE X e te) (hdb : (x == ("__debug__" : Str)) = false := by decide)
    (hst : starEach [.Starred e sp_] X.env = [(true, eval e X.env)] := by rfl) : PE X (.Call (.Name x q) [.Starred e sp_] [] pos) (tMakeSt X.K C sp E te) := by
  refine ⟨fun pins s σ H Q I h => ?_⟩
  refine wpAny_Call_Name_kw (ld_glob I hg hm ?_ hdb)
  refine PySem.W.callWith_S (h₀ := X.base) I.ok.mod.kin M.kp (thn (he.run pins s σ H _ I h) fun v s1 ⟨y, H1, I1, ry, a, xs, ey, hxs, q⟩ => ?_) hst
  subst ey
  obtain rfl : v = Value.ref a := ry
  exact StX.star_any I1 hxs fun us s2 I2 rv => ⟨I2.kIn, run_makeRS M F hr (hx σ) I2 rv q⟩
/-- len(o), o an instance of the class at C whose __len__ is the def at g -/
theorem call_lenO {E : XK} (F : FnR X.prog X.w X.K X.mg X.base CX k g sp) (hr : Room (k + 1) X.A) (hx : Passes CX X E) (hs : PySem.W.findIn X.K (.ref C) "__len__" = some (some (.ref g))) (hf : PySem.W.isFn X.K (.ref g) = true) :
    CallR X (.builtin "len") (fun xs H Q => ∃ a dx fs, xs = [V.ref a] ∧ H a = some (.ins C dx fs) ∧ sp [V.ref a] H (fun v H' => ∃ n : Nat, v = .int n ∧ n ≤ 1000 ∧ Q (.int n) H') E) := by
  intro pins s σ H xs us Q I r h
  obtain ⟨a, dx, fs, rfl, ha, h⟩ := h
  obtain ⟨u, rfl, hu⟩ := vals1 r
  obtain rfl : u = Value.ref a := hu
  obtain ⟨mA, O, _, _, _, _⟩ := ins_get I.hok ha
  obtain ⟨od, J, _⟩ := O.look
  refine Calls.call_function_entry kind_len plain_len entry_len (args_len1 _) ?_
  unfold Builtin.«len»
  refine wpAny_bind (m := oneArg "len" _) (wpAny_pure ?_)
  have r2 : Vals [V.ref a] [Value.ref a] := .cons rfl .nil
  refine wpAny_bind (m := callSpecial? (.ref a) (Str.ofString "__len__")) (PySem.W.special_fn (args := []) I.kIn J hs (beq_iff_eq.mp hf) (wpAny_call (codeAny_mono (F X.A.in1 X.stack s H [.ref a] [.ref a] _ E hr.in1 I.env0.in1 r2 h) fun r s' hq => ?_)))
  cases r with
  | error e => exact hx pins σ H s e s' I hq
  | ok fl =>
    cases fl with
    | ret u =>
      obtain ⟨v, H', I3, rv, n, ev, hn, q3⟩ := I.after hq
      subst ev
      obtain ⟨tk, eu⟩ := (show ∃ tk, u = Value.int n tk from rv)
      subst eu
      refine wpAny_bind (wpAny_holding (wpAny_pure ?_))
      refine wpAny_bind (wpAny_letGo ?_)
      show wpAny _ _ (if ((n : Nat) : Int) < 0 then _ else _) _ _ _
      rw [if_neg (by omega)]
      show wpAny _ _ (if ((n : Nat) : Int) ≥ 2 ^ 63 then _ else _) _ _ _
      rw [if_neg (by omega)]
      exact wpAny_bind (wpAny_mkInt (wpAny_pure ⟨_, rfl, .int n, H', I3.tok _, ⟨_, rfl⟩, q3⟩))
    | next => exact False.elim hq
    | brk => exact False.elim hq
    | cont => exact False.elim hq
/-! ### data in tuples -/
def rInT (K : PySem.W.Frag) : R2 := fun x y H Q => ∃ d ds, Dp K H x d ∧ Dp K H y (.tuple ds) ∧ SeqAt.shaped d = true ∧ SeqAt.shaped (.tuple ds) = true ∧ Q (.bl (ds.any fun z => PyData.eqv z d)) H
theorem op_inT (hu : X.A.units + 65 < cLine) : OpR X (compareOp .In) (rInT X.K) := by
  intro pins s σ H x y v u Q I rx ry h
  obtain ⟨d, ds, hd, he, sd, se, q⟩ := h
  obtain ⟨as, r1⟩ := Dp.reads I d x v hd rx
  obtain ⟨bs, r2⟩ := Dp.reads I (.tuple ds) y u he ry
  exact SeqAt.in_tuple_reads r2 r1 (SeqAt.canLay_of_shaped se) (SeqAt.canLay_of_shaped sd) (room_in_shaped sd hu) ⟨.bl _, H, I, rfl, q⟩
/-- t.index(x): the first place of an equal one -/
def rIndexT (K : PySem.W.Frag) : V → List V → Hp → VK → Prop := fun x xs H Q => ∃ (a : Addr) (y : V) (d : PyData) (ds : List PyData) (j : Nat) (z : PyData), x = V.ref a ∧ xs = [y] ∧ Dp K H (V.ref a) (.tuple ds) ∧ Dp K H y d ∧
  SeqAt.shaped (.tuple ds) = true ∧ SeqAt.shaped d = true ∧ ds[j]? = some z ∧ PyData.eqv z d = true ∧ (∀ (m : Nat) (z' : PyData), m < j → ds[m]? = some z' → PyData.eqv z' d = false) ∧ Q (.int (j : Nat)) H
theorem mt_tindexD (hu : X.A.units + 65 < cLine) : MtR X "tuple.index" (rIndexT X.K) := by
  intro pins s σ H x xs v us Q I rx rxs h
  obtain ⟨a, y, d, ds, j, z, rfl, rfl, hl, hy, sl, sd, hz, hzj, hno, q⟩ := h
  cases rx
  cases rxs with
  | cons ry rt =>
    rename_i uy ut
    cases rt
    obtain ⟨bs, r1⟩ := Dp.reads I d y uy hy ry
    have hxs : PyData.canLayAll0 ds = true := SeqAt.canLay_of_shaped sl
    have hroom : X.A.units + 1 + min (PyData.depthAll ds) d.depth < cLine := room_in_shaped sd hu
    cases hl with
    | tup hs ha =>
      obtain ⟨its, rv, ⟨⟨cls, dd, data, sls⟩, ho, hc, n, hdt⟩, hlen⟩ := I.tuple hs
      simp only at hc hdt
      subst hc hdt
      obtain ⟨as, h4⟩ := Dp.readsAll I ds _ its ha rv
      have hn : its.length = ds.length := SeqAt.ReadsAll.length ds its as h4
      have hmap : its.map (SeqAt.readOf s.heap) = ds := SeqAt.readsAll_map ds its as hxs h4
      have hvl := rv.length
      obtain ⟨hjd, _⟩ := List.getElem?_eq_some_iff.mp hz
      have hjl : j < its.length := by omega
      have hj : j < its.toArray.size := by simpa using hjl
      have at_ : ∀ (m : Nat) (hm : m < its.toArray.size) (z' : PyData), ds[m]? = some z' → SeqAt.readOf s.heap its.toArray[m] = z' := by
        intro m hm z' hz'
        have hml : m < its.length := by simpa using hm
        rw [← hmap, List.getElem?_map, List.getElem?_eq_getElem hml] at hz'
        have e1 : SeqAt.readOf s.heap its[m] = z' := Option.some.inj (show some (SeqAt.readOf s.heap its[m]) = some z' from hz')
        simpa using e1
      refine call_meets PySem.F.slot_tuple_index ⟨_, ho, rfl⟩ PySem.F.entry_tuple_index (PySem.F.args_tuple_index_2 _ _)
        (TI.tuple_indexAt a its.toArray n dd sls uy (fun u => PyData.eqv (SeqAt.readOf s.heap u) d) j hj ?_ ?_) ⟨ho, SeqAt.items_eqAt (vs := its.toArray) (show ReadsAll s.heap its.toArray.toList ds as from h4) r1 hxs (SeqAt.canLay_of_shaped sd) hroom, ?_⟩
      · show PyData.eqv (SeqAt.readOf s.heap its.toArray[j]) d = true
        rw [at_ j hj z hz]
        exact hzj
      · intro m hm hmj
        have hmd : m < ds.length := by omega
        have hz' : ds[m]? = some ds[m] := List.getElem?_eq_getElem hmd
        show PyData.eqv (SeqAt.readOf s.heap its.toArray[m]) d = false
        rw [at_ m hm _ hz']
        exact hno m _ hmj hz'
      · exact ⟨.int (j : Nat), H, I.tok _, ⟨_, rfl⟩, q⟩
/-- xs.count(z), texts -/
def rCntS (K : PySem.W.Frag) : V → List V → Hp → VK → Prop := fun x xs H Q => ∃ (p : Addr) (ys : List Str) (z : Str), x = .ref p ∧ xs = [.str z] ∧ SqL K H p (ys.map V.str) ∧ Q (.int (countIn (.str z) (ys.map PyData.str))) H
theorem mt_lcountS : MtR X "list.count" (rCntS X.K) := by
  intro pins s σ H x xs v us Q I rx rxs h
  obtain ⟨p, ys, z, rfl, rfl, hs, q⟩ := h
  cases rx
  obtain ⟨u, rfl, ru⟩ := rxs.one
  obtain ⟨t, rfl⟩ := ru
  obtain ⟨its, rv, pl, hlen⟩ := I.list hs
  exact count_list_strs pl.isList (strsAre_of rv) ⟨.int _, H, I.tok _, ⟨_, rfl⟩, q⟩
/-! ### repr of what is flat -/
def reprV : V → Option Str
  | .int i => some (toString i)
  | .bl b => some (if b then "True" else "False")
  | .non => some "None"
  | .str z => some (reprText z)
  | _ => none
def rRepr (xs : List V) (H : Hp) (Q : VK) : Prop := ∃ v z, xs = [v] ∧ reprV v = some z ∧ (∀ i, v = .int i → i.natAbs.log2 < 1920) ∧ (∀ y, v = .str y → (reprText y).length ≤ sizeLine) ∧ Q (.str z) H
theorem call_reprF : CallR X (.builtin "repr") rRepr := by
  intro pins s σ H xs us Q I r h
  obtain ⟨v, z, rfl, hz, hi, hs, q⟩ := h
  obtain ⟨u, rfl, hu⟩ := vals1 r
  cases v with
  | int i =>
    obtain ⟨t, rfl⟩ := hu
    cases hz
    exact PySem.P.repr_of_int (hi i rfl) ⟨.str _, H, I.tok _, ⟨_, rfl⟩, q⟩
  | bl b =>
    cases (show u = Value.bool b from hu)
    cases hz
    exact PySem.P.repr_of_bool ⟨.str _, H, I.tok _, ⟨_, rfl⟩, q⟩
  | non =>
    cases (show u = Value.none from hu)
    cases hz
    exact PySem.P.repr_of_none ⟨.str _, H, I.tok _, ⟨_, rfl⟩, q⟩
  | str y =>
    obtain ⟨t, rfl⟩ := hu
    cases hz
    exact PySem.P.repr_of_str ⟨.str _, H, I.tok _, ⟨_, rfl⟩, q⟩ (hs y rfl)
  | byt b => cases hz
  | flt b => cases hz
  | ref a => cases hz
  | ty n => cases hz
end
end OO

/-! enumerate of a tuple. -/
namespace OO
open PySem PySem.Sem
open AutoSeq1 (wpAny_loadPart')
theorem meets_enumerate_newT (l : Addr) (items : Array Value) (n : Nat) (dct : Option Addr) (sl : Array (Option Value)) :
    Meets (Builtin.«enumerate.__new__» ⟨[.type "enumerate", .ref l], []⟩) (fun _ R s => s.heap.get? l = some { cls := .type "tuple", dict := dct, data := .seq items n, slots := sl } ∧
      R (.ok (.ret (.ref (s.heap.push { cls := .type "tuple_iterator", data := .fields #[.ref l, .int 0 0] }).objs.size)))
        { s with heap := (s.heap.push { cls := .type "tuple_iterator", data := .fields #[.ref l, .int 0 0] }).push { cls := .type "enumerate", data := .fields #[.none, .bool false, .ref s.heap.objs.size, rawInt 0, .none, .none] } }) :=
  .of_wp fun prog w A R s h => by
    obtain ⟨hp, g, d, tk, os⟩ := s; obtain ⟨hl, h⟩ := h
    have hsub := sub_enumerate
    have hL : Heap.IsTuple (Shared.heap ⟨hp, g, d, tk, os⟩) l items := ⟨_, hl, rfl, n, rfl⟩
    wp_walk using wpAny_loadPart' hl
    refine wpAny_stack_any fun st => wpAny_pure ?_
    split
    · rename_i c _ _ _ _ _
      cases (c == Value.type "enumerate")
      · wp_walk using wpAny_loadPart' hl, wpAny_pyIter_tuple hL
        exact ⟨_, rfl, h⟩
      · wp_walk using wpAny_loadPart' hl, wpAny_pyIter_tuple hL
        exact ⟨_, rfl, h⟩
    · wp_walk using wpAny_loadPart' hl, wpAny_pyIter_tuple hL
      exact ⟨_, rfl, h⟩
theorem call_enumerate_tuple {prog : Program} {w : World} {A : Around} {E : Value → Shared → Prop} {s : Shared} {l : Addr} {items : Array Value} {Q : Value → Shared → Prop} (hL : s.heap.IsTuple l items)
    (h : ∀ h', IsEnum h' (s.heap.objs.size + 1) s.heap.objs.size 0 .none → h'.IsTupleIter s.heap.objs.size l 0 → h'.objs.size = s.heap.objs.size + 2 →
      (∀ b o, s.heap.get? b = some o → h'.get? b = some o) → Q (.ref (s.heap.objs.size + 1)) { s with heap := h' }) :
    wpAny (model prog w) A (call (.type "enumerate") [.ref l]) Q E s := by
  obtain ⟨⟨c, dct, dt, sl⟩, hl, hc, n, hd⟩ := hL
  replace hc : c = .type "tuple" := hc
  replace hd : dt = .seq items n := hd
  subst hc hd
  refine callType_new F.called_enumerate (by decide) (F.typeCall_enumerate_1 _) (F.newCall_enumerate_1 _) (fun obj => F.args_object_init_2 obj _) F.entry_enumerate_new
    (meets_enumerate_newT l items n dct sl) ⟨hl, ?_⟩
  have hz : (s.heap.push { cls := .type "tuple_iterator", data := .fields #[.ref l, .int 0 0] }).objs.size = s.heap.objs.size + 1 := Heap.size_push ..
  show _ ∧ _
  rw [hz]
  have he : IsEnum ((s.heap.push { cls := .type "tuple_iterator", data := .fields #[.ref l, .int 0 0] }).push
      { cls := .type "enumerate", data := .fields #[.none, .bool false, .ref s.heap.objs.size, rawInt 0, .none, .none] }) (s.heap.objs.size + 1) s.heap.objs.size 0 .none := by
    have := Heap.get?_push_size (s.heap.push { cls := .type "tuple_iterator", data := .fields #[.ref l, .int 0 0] })
      (o := { cls := .type "enumerate", data := .fields #[.none, .bool false, .ref s.heap.objs.size, rawInt 0, .none, .none] }) rfl
    rw [hz] at this; exact this
  refine ⟨⟨_, he, rfl⟩, h _ he ⟨_, Heap.get?_push_of_some _ (Heap.get?_push_size _ rfl), rfl, rfl⟩ (by rw [Heap.size_push, hz]) fun b o x => Heap.get?_push_of_some _ (Heap.get?_push_of_some _ x)⟩
end OO
namespace OO
open PySem PySem.Spec PyProof.Rows L2
/-- the tuple at a, each item in a new pair -/
def IteT (K : PySem.W.Frag) (a : Addr) : It :=
  ⟨fun i H => ∃ (xs : List V) (x : V), SqT K H a xs ∧ xs[i]? = some x, fun i H v H' => ∃ T x, v = .ref T ∧ H T = none ∧ H' = upd H T (.tup [.int (i : Nat), x]) ∧ ∀ xs, SqT K H a xs → xs[i]? = some x, fun i H => ∃ xs : List V, SqT K H a xs ∧ xs.length ≤ i⟩
theorem tupIter_ne {h : Heap} {a it : Addr} {i : Nat} {its : Array Value} (p : h.IsTuple a its) (q : h.IsTupleIter it a i) : a ≠ it := fun z => by
  obtain ⟨o, ho, hc, _⟩ := p
  obtain ⟨o2, ho2, hc2, _⟩ := q
  rw [z, ho2] at ho
  have := Option.some.inj ho
  subst this
  rw [hc2] at hc
  exact absurd hc (by decide)
theorem enum_ne {h : Heap} {a e it : Addr} {i : Int} {old : Value} {its : Array Value} (p : h.IsTuple a its) (q : IsEnum h e it i old) : e ≠ a := fun z => by
  obtain ⟨o, ho, hc, _⟩ := p
  rw [← z, q] at ho
  have := Option.some.inj ho
  subst this
  exact absurd (Value.type.inj hc) (by decide)
theorem turn_enumT {P : Program} {w : World} {K : PySem.W.Frag} {elts : List Expr} {kk : Nat} {tpos : Pos} (a e it : Addr) :
    Turn P w K (.Tuple elts kk tpos) (IteT K a) [e, it] e (fun i h => (∃ old, IsEnum h e it ((i : Nat) : Int) old) ∧ h.IsTupleIter it a i ∧ e ≠ it) where
  mem := by simp
  obj := fun i h st b hb => by
    obtain ⟨⟨old, he⟩, ⟨o, ho, hc, hd⟩, _⟩ := st
    have e' : b = e ∨ b = it := by simpa using hb
    rcases e' with z | z
    · rw [z]; exact ⟨_, he, fun v q => nomatch q⟩
    · rw [z]; exact ⟨o, ho, fun v q => by rw [hd] at q; cases q⟩
  keep := fun i h h' st k => let ⟨⟨old, he⟩, hi, hne⟩ := st; ⟨⟨old, k e (by simp) _ he⟩, hi.at fun o q => k it (by simp) o q, hne⟩
  item := by
    intro X hP hw hK hc i pins s σ H E I hf st hg
    subst hP hw hK
    obtain ⟨⟨old, he⟩, hit, hne⟩ := st
    obtain ⟨xs, x, hq, hx⟩ := hg
    obtain ⟨its, rv, p, hz⟩ := I.tuple hq
    obtain ⟨u, hu, ru⟩ := rv.get hx
    have hel : e < s.heap.objs.size := Heap.lt_size he
    have hil : it < s.heap.objs.size := by obtain ⟨_, q, _⟩ := hit; exact Heap.lt_size q
    have hat := tupIter_ne p hit
    have hlt : i < its.toArray.size := by
      have := (List.getElem?_eq_some_iff.mp hu).1
      simpa using this
    refine wpAny_pyNext_enum_itemD (Draws.tuple (A := X.A.in1) (show X.A.in1.handled = none from I.ok.hd hc) it a hat its.toArray) he ⟨hit, p⟩ hlt hne (by
      have := enum_ne p he
      simp [hne, this]) fun x' h' tk hx' ho st' hT hsz hk => ?_
    have hit' := st'.1
    have ex : x' = u := by
      have h1 : its[i]? = some x' := by simpa using hx'
      exact Option.some.inj (h1.symm.trans hu)
    subst ex
    refine ⟨_, rfl, wpAny_letOwnedTupleGo_enum (s := { s with heap := h', toks := tk + 1 }) ho fun h'' he' sb => ?_⟩
    have hT2 : h''.get? s.heap.objs.size = some { cls := .type "tuple", data := .seq #[.int i tk, x'] } := (sb.2 _ (Nat.ne_of_gt hel)).trans hT
    have new : ObjOk X.prog X.w (upd H s.heap.objs.size (.tup [.int (i : Nat), x])) h'' s.heap.objs.size (.tup [.int (i : Nat), x]) :=
      ⟨by show 2 ≤ sizeLine; decide, [.int i tk, x'], .cons ⟨_, rfl⟩ (.cons ru .nil), ⟨_, hT2, rfl, _, rfl⟩⟩
    have I1 : Inv X pins σ (upd H s.heap.objs.size (.tup [.int (i : Nat), x])) { s with heap := h'', toks := tk + 1 } :=
      I.turnedNew (ch := [e, it]) (fun b ob hb q => (sb.2 b (fun z => hb (by simp [z]))).trans (hk b ob (fun z => hb (by simp [z])) (fun z => hb (by simp [z])) q)) hf (Nat.le_refl _) new
    refine ⟨.ref s.heap.objs.size, _, I1, rfl, ⟨_, x, rfl, I.hok.fresh (Nat.le_refl _), rfl, fun ys hy => by rw [I.tuple_inj hy hq]; exact hx⟩, ⟨⟨x', ?_⟩, hit'.at fun o q => (sb.2 it (Ne.symm hne)).trans q, hne⟩, fun b hb => ?_⟩
    · have e1 : ((i + 1 : Nat) : Int) = (i : Int) + 1 := by omega
      rw [e1]; exact he'
    · have hb' : b < s.heap.objs.size := by
        have e' : b = e ∨ b = it := by simpa using hb
        rcases e' with z | z
        · rw [z]; exact hel
        · rw [z]; exact hil
      rw [upd_ne (Nat.ne_of_lt hb')]
      exact (hf b hb).1
  done := by
    intro X hP hw hK hc i pins s σ H E I hf st hg
    subst hP hw hK
    obtain ⟨⟨old, he⟩, hit, hne⟩ := st
    obtain ⟨xs, hq, hx⟩ := hg
    obtain ⟨its, rv, p, hz⟩ := I.tuple hq
    obtain ⟨f0, f1, f2, f3, f4, f5⟩ := hf it (by simp)
    have hl := rv.length
    have hat := tupIter_ne p hit
    have hh : X.A.in1.handled = none := I.ok.hd hc
    have hT : s.TypeIs (.ref e) "enumerate" := ⟨_, he, rfl⟩
    show wpAny _ _ (pyNext (.ref e)) _ _ _
    unfold pyNext
    refine wpAny_bind (wpAny_attempt (wpAny_callSpecial?_slot (name := Str.ofString "__next__") hT F.slot_enumerate_next
      (wpAny_call_entry F.slot_enumerate_next hT F.entry_enumerate_next ?_ (F.args_enumerate_next_1 _))))
    show wpAny _ _ (field (.ref e) 2 >>= _) _ _ _
    refine wpAny_bind (wpAny_field he rfl (x := .ref it) rfl ?_)
    refine wpAny_bind (wpAny_nextOf_tuple_end hh hit p (by simp; omega) fun h' x eb hx' => ?_)
    obtain ⟨o, ho, hcl⟩ := hx'
    refine wpAny_bind (wpAny_isInstance (T := "StopIteration") (b := true) ⟨o, ho, hcl⟩ isSubtype_stop ?_)
    exact wpAny_pure ⟨rfl, I.turned (t' := s.toks) (fun b o hb q => eb b o hb q) f0 f1 f3 f4 f5⟩
  self := fun A i s Q E st h => let ⟨⟨_, he⟩, _⟩ := st; wpAny_pyIter_enum he h
def iEnumT (K : PySem.W.Frag) (ta : TA) : TI := fun σ H R => ta σ H fun vs H1 => ∃ a xs, vs = [.ref a] ∧ SqT K H1 a xs ∧ R (IteT K a) H1
theorem pi_enumT {X : Cx} {e : Expr} {ta : TA} {p pos tpos : Pos} {elts : List Expr} {kk : Nat} (hg : Gl X "enumerate") (hm : X.mg "enumerate" = none) (ha : PA X [e] ta) (hs : starEach [e] X.env = [(false, eval e X.env)] := by rfl) :
    PI X (.Tuple elts kk tpos) (.Call (.Name "enumerate" p) [e] [] pos) (iEnumT X.K ta) := by
  refine ⟨fun pins s σ H R I h => ?_⟩
  refine Call_ (ld_blt I hg hm boot_enumerate (PyProof.Rows.callWith_type1 (thn (ha.run pos pins s σ H _ I h) fun us s1 ⟨vs, H1, I1, r1, q1⟩ => ?_) hs rfl))
  obtain ⟨a, xs, ex, hq, q⟩ := q1
  subst ex
  cases r1 with
  | cons r rr =>
    cases rr
    cases r
    obtain ⟨its, rv, p', hz⟩ := I1.tuple hq
    refine call_enumerate_tuple p' fun h' he hit hsz hk => wpAny_pyIter_enum he ?_
    have I2 : Inv X pins σ H1 { s1 with heap := h' } := I1.kept (t' := s1.toks) hk
    refine ⟨s1.heap.objs.size + 1, [s1.heap.objs.size + 1, s1.heap.objs.size], _, _, H1, rfl, I2, turn_enumT a (s1.heap.objs.size + 1) s1.heap.objs.size, ⟨⟨.none, he⟩, hit, Nat.succ_ne_self _⟩, fun b hb => ?_, q⟩
    have e' : b = s1.heap.objs.size + 1 ∨ b = s1.heap.objs.size := by simpa using hb
    have hle : s1.heap.objs.size ≤ b := by
      rcases e' with z | z
      · rw [z]; exact Nat.le_add_right _ _
      · rw [z]; exact Nat.le_refl _
    exact I1.fpOk hle (I1.hok.fresh hle)
theorem walk_enumT {K : PySem.W.Frag} {a : Addr} {xs : List V} : Walk (IteT K a) xs.length (fun H => SqT K H a xs) (YPair (fun i => some (.int (i : Nat))) (fun i => xs[i]?)) := by
  refine ⟨fun i _ hi q => ⟨xs, xs[i], q, by simp [hi]⟩, fun _ q => ⟨xs, q, Nat.le_refl _⟩, fun i H v H' _ q y => ?_⟩
  obtain ⟨T, x, h1, h2, h3, h4⟩ := y
  exact ⟨T, .int (i : Nat), x, h1, h2, h3, rfl, h4 xs q⟩
end OO

/-! Error classes of a program's own that store what they are made of: made and raised, their field read off where they are caught. -/
namespace OO
open PySem PySem.Spec PyProof.Rows L2 GG
structure ExT (K : PySem.W.Frag) (mg : Str → Option Value) (nm fld : Str) (S fI : Addr) : Prop where
  g : mg nm = some (.ref S)
  o : OexC K S
  no : PySem.W.findIn K (.ref S) fld = some none
  x : XfC K S
  i : PySem.W.findIn K (.ref S) "__init__" = some (some (.ref fI))
  t : PySem.W.typeIn K (.ref fI) = some (.type "function")
  te : PySem.W.exmOne K (.ref S) (.ref S) = some true
def spExI (S : Addr) (fld : Str) : Sp := fun vs H Q _ => ∃ (a : Addr) (v : V), vs = [.ref a, v] ∧ H a = some (exo a S none) ∧ ∀ dx, H dx = none → dx ≠ a → Q .non (upd (upd H dx (exd dx [(fld, v)])) a (exo a S (some dx)))
theorem mko {S : Addr} {fld : Str} {v : V} {H1 : Hp} {Q : XK} (q : ∀ (d : Addr) (H' : Hp), H1 d = none → Same H1 H' → H' d = some (.xd [(fld, v)]) → Q (.ref S) (some d) H') :
    [v].length ≤ 1000 ∧ ∀ a, H1 a = none → spExI S fld (.ref a :: ([v] ++ [])) (upd H1 a (exo a S none))
      (fun v' H2 => v' = .non ∧ ∃ (d : Addr) (fs : List (Str × V)), H2 a = some (exo a S (some d)) ∧ H2 d = some (exd d fs) ∧ H1 d = none ∧ Q (.ref S) (some d) (upd (del H2 a) d (.xd fs))) (fun _ _ _ => False) := by
  refine ⟨by show 1 ≤ 1000; decide, fun a ha => ⟨a, v, rfl, upd_same, fun dx hdx hne => ?_⟩⟩
  have hd : H1 dx = none := by
    rw [upd_ne hne] at hdx
    exact hdx
  refine ⟨rfl, dx, [(fld, v)], upd_same, by rw [upd_ne hne]; exact upd_same, hd, q dx _ hd (fun b o e => ?_) upd_same⟩
  have h1 : b ≠ dx := ne_of_none e hd
  have h2 : b ≠ a := ne_of_none e ha
  rw [upd_ne h1, del_ne h2, upd_ne h2, upd_ne h1, upd_ne h2]
  exact e
/-- what is known of the class, in one fact for each part -/
theorem exT_of {K : PySem.W.Frag} {h : Heap} {mg : Str → Option Value} {nm fld : Str} {S fI : Addr} (X : K.In h) (G : h.Ns mainGlobals mg) {nn q : Str} {N : Addr} {bs bm : List Value} {sn : List Str} {sub : List Value} {ab : Bool} {col : Option Bool} {dd : Option Addr} {k0 k1 k2 k3 k5 : Option Value}
    (a : PySem.W.nsIn K mainGlobals nm = some (some (.ref S))) (l : K.lookup S = some (excClassObj nn q S N bs bm true sn sub ab col dd k0 k1 k2 k3 k5 "ValueError.__new__")) (hb : PySem.HandSPX.refsVE bm = true)
    (sa : PySem.W.findIn K (.ref S) "__setattr__" = some (some (.builtin "object.__setattr__"))) (ex : PySem.W.subIn K (.ref S) (.type "BaseException") = some true) (ty : PySem.W.typeIn K (.ref S) = some (.type "type")) (kp : PySem.W.keepIn K (.ref S) = true)
    (no : PySem.W.findIn K (.ref S) fld = some none) (ga : PySem.W.findIn K (.ref S) "__getattribute__" = some (some (.builtin "BaseException.__getattribute__"))) (gg : PySem.W.findIn K (.ref S) "__getattr__" = some none) (hd : PySem.W.hasDictIn K S = true)
    (i : PySem.W.findIn K (.ref S) "__init__" = some (some (.ref fI))) (t : PySem.W.typeIn K (.ref fI) = some (.type "function")) (ic : PySem.W.isClsIn K S = true) (ss : PySem.W.subIn K (.ref S) (.ref S) = some true) : ExT K mg nm fld S fI where
  g := PySem.W.mg_of X G a
  o := ⟨⟨_, _, _, _, _, _, _, _, _, _, _, _, _, _, _, l, hb⟩, sa, ex, ty, kp⟩
  no := no
  x := ⟨ga, gg, ex, hd⟩
  i := i
  t := t
  te := by
    have e1 : (PySem.W.subIn K (.ref S) (.type "BaseException") == some true) = true := by rw [ex] <;> rfl
    have e2 : ((PySem.W.clsIn K S).isSome && PySem.W.typeIn K (.ref S) == some (.type "type")) = true := by
      have h2' : (PySem.W.clsIn K S).isSome = true := ic
      rw [h2', ty] <;> rfl
    show (if (PySem.W.subIn K (.ref S) (.type "BaseException") == some true) = true then (if ((PySem.W.clsIn K S).isSome && PySem.W.typeIn K (.ref S) == some (.type "type")) = true then PySem.W.subIn K (.ref S) (.ref S) else none) else none) = some true
    rw [if_pos e1, if_pos e2]
    exact ss
/-- at x: an instance of the class at C with such attributes -/
def At (C : Addr) (H : Hp) (x : Addr) (fs : List (Str × V)) : Prop := ∃ dx, H x = some (.ins C dx fs)
theorem At.same {C : Addr} {H H' : Hp} {x : Addr} {fs : List (Str × V)} (h : At C H x fs) (s : Same H H') : At C H' x fs := by
  obtain ⟨dx, h⟩ := h
  exact ⟨dx, s _ _ h⟩
end OO

/-! Defs with a star parameter as they stand in the text. -/
namespace OO
open PySem PySem.Spec PyProof.Rows L2 GG
/-! ### data apart from an object that is changed -/
theorem rd_keep {x : Addr} {H H' : Hp} {C dx : Addr} {fs : List (Str × V)} (k : Keep x H H') (hx : H x = some (.ins C dx fs)) {a : Addr} {o : HO} (ho : ∀ C dx fs, o ≠ .ins C dx fs) (h : Rd H a o) : Rd H' a o := by
  rcases h with h | ⟨u, h⟩
  · refine .inl (k a (fun e => ?_) _ h)
    rw [e, hx] at h
    exact ho _ _ _ (Option.some.inj h).symm
  · refine .inr ⟨u, k a (fun e => ?_) _ h⟩
    rw [e, hx] at h
    cases h
mutual
theorem dp_keep {K : PySem.W.Frag} {x : Addr} {H H' : Hp} {C dx : Addr} {fs : List (Str × V)} (k : Keep x H H') (hx : H x = some (.ins C dx fs)) : ∀ (d : PyData) (v : V), Dp K H v d → Dp K H' v d
  | .none, _, h => by cases h; exact .non
  | .bool b, _, h => by cases h; exact .bl b
  | .int i, _, h => by cases h; exact .int i
  | .str z, _, h => by cases h; exact .str z
  | .list ds, _, h => by
    cases h with
    | lst hs ha => exact .lst (hs.elim (fun z => .inl (rd_keep k hx (fun _ _ _ e => by cases e) z)) .inr) (dpAll_keep k hx ds _ ha)
  | .tuple ds, _, h => by
    cases h with
    | tup hs ha => exact .tup (hs.elim (fun z => .inl (rd_keep k hx (fun _ _ _ e => by cases e) z)) .inr) (dpAll_keep k hx ds _ ha)
  | .dict _, _, h => by cases h
theorem dpAll_keep {K : PySem.W.Frag} {x : Addr} {H H' : Hp} {C dx : Addr} {fs : List (Str × V)} (k : Keep x H H') (hx : H x = some (.ins C dx fs)) : ∀ (ds : List PyData) (vs : List V), DpAll K H vs ds → DpAll K H' vs ds
  | [], _, h => by cases h; exact .nil
  | d :: ds, _, h => by
    cases h with
    | cons h1 h2 => exact .cons (dp_keep k hx d _ h1) (dpAll_keep k hx ds _ h2)
end
theorem val_keep {K : PySem.W.Frag} {x : Addr} {H H' : Hp} {C dx : Addr} {fs : List (Str × V)} {v : V} {d : PyData} (h : Val K H v d) (k : Keep x H H') (hx : H x = some (.ins C dx fs)) : Val K H' v d := by
  rcases h with ⟨h, g⟩ | ⟨rfl, a, kvs, rfl, h⟩
  · exact .inl ⟨dp_keep k hx d v h, g⟩
  · refine .inr ⟨rfl, a, kvs, rfl, k a (fun e => ?_) _ h⟩
    rw [e, hx] at h
    cases h
/-- the promise of a def f(a, .., *v), told of its positional arguments; the tuple of what is left over is known as the object it is -/
def spStar (n : Nat) (sp : Sp) : Sp := fun vs H Q E => ∃ ws rest, vs = ws ++ rest ∧ ws.length = n ∧ rest.length ≤ sizeLine ∧ ∀ (p : Addr) (ob : Obj), H p = none → ob.cls = .type "tuple" → ob.dict = none → sp (ws ++ [V.ref p]) (upd H p (.frz ob (.tup rest))) Q E
section
variable {P : Program} {w : World} {K : PySem.W.Frag} {mg : Str → Option Value} {base : Heap}
/-- a def whose arguments beyond the first ones go into a tuple, by the facts of its record -/
theorem star_raw {CX : CXT} {k : Nat} {f : Addr} {nm ql : Str} {pa : Arguments} {bd : List Stmt} {sc : Scope} {v1 v2 v3 v4 v5 v6 v7 : Value} {o1 o2 : Option Addr} {sl : Array (Option Value)} {N qs : List Str} {sp : Sp} {pv : Str}
    (hl : K.lookup f = some ⟨v7, o2, .func (PySem.W.fnOf nm ql pa bd sc v1 v2 v3 v4 o1 v5 v6), sl⟩) (hc : PySem.W.codeIn K v5 ql = true) (S : FnScope N (qs ++ [pv]) sc) (up : StX.CXUp CX)
    (hb : ∀ fst rst : List Value, fst.length = qs.length → bindArgs (PySem.W.fnOf nm ql pa bd sc v1 v2 v3 v4 o1 v5 v6) ⟨fst ++ rst, []⟩ = (newTuple rst >>= fun t => pure (qs.zip fst ++ [(pv, t)])))
    (body : ∀ (A : Around) (outer : List Env) (s : Shared) (H : Hp) (vs : List V) (Q : VK) (E : XK), Room k (A.deeper (envOfC ql sc s.heap.objs.size f v5)) → sp vs H Q E →
      ∃ t, PSs (cxOf CX P w K mg base N ql sc f v5 A outer s H E) bd t ∧ t { nx := fun _ H' => Q .non H', rt := Q } (start N vs) H) :
    FnR P w K mg base CX (k + 1) f (spStar qs.length sp) := by
  rintro A outer s H all _ Q E room e0 rel ⟨ws, rst, rfl, len, fits, want⟩
  obtain ⟨fst, snd, rfl, rel1, rel2⟩ := StX.vals_split rel
  have lfst : fst.length = qs.length := rel1.length.symm.trans len
  have fits2 : snd.length ≤ sizeLine := rel2.length ▸ fits
  have nw : H s.heap.objs.size = none := e0.hok.fresh (Nat.le_refl _)
  refine StX.run_bnd hl hc S room e0 (G := fun xs Hx => ∃ (p : Addr) (ob : Obj), H p = none ∧ ob.cls = .type "tuple" ∧ ob.dict = none ∧ xs = ws ++ [V.ref p] ∧ Hx = upd H p (.frz ob (.tup rst))) ?_ ?_
  · intro A' Ex Q' good
    rw [hb fst snd lfst]
    refine wpAny_bind (wpAny_newTuple (wpAny_pure ?_) fits2)
    have at_ : (s.heap.push ({ cls := .type "tuple", data := .seq snd.toArray } : Obj)).get? s.heap.objs.size = some ({ cls := .type "tuple", data := .seq snd.toArray } : Obj) := Heap.get?_push_size _ rfl
    have un := StX.un_laid (fs := frs outer) (s := s) (o := ({ cls := .type "tuple", data := .seq snd.toArray } : Obj)) (u := .frz ({ cls := .type "tuple", data := .seq snd.toArray } : Obj) (.tup rst)) nw
    have fine := good _ _ (ws ++ [V.ref s.heap.objs.size]) (fst ++ [Value.ref s.heap.objs.size]) (StX.env0_laid (u := .frz ({ cls := .type "tuple", data := .seq snd.toArray } : Obj) (.tup rst)) e0 ⟨at_, fits, snd, rel2, ⟨_, at_, rfl, _, rfl⟩⟩) un rfl
      (fun e s' => up outer s H _ _ E e s' un (fun _ _ z => Heap.get?_push_of_some _ z) rfl) (rel1.append (.cons rfl .nil)) (by simp only [List.length_append, List.length_singleton, len]) ⟨_, _, nw, rfl, rfl, rfl, rfl⟩
    rwa [List.zip_append lfst.symm] at fine
  · rintro s2 _ _ ⟨p, ob, np, hcl, hd, rfl, rfl⟩ room'
    exact body A outer s2 _ _ Q E room' (want p ob np hcl hd)
theorem Fun.star1 {CX : CXT} {x ql : Str} {st : Stmt} {f : Addr} {fd : FuncData} {N : List Str} {p1 pv : Str} {k : Nat} {sp : Sp} (F : Fun K x ql st f fd) (S : FnScope N [p1, pv] (defScope st)) (up : StX.CXUp CX)
    (h0 : ∀ (b c d : Value) (e : Option Addr) (g h u : Value), bindArgs (PySem.W.fnOf x ql (defArgs st) (defBody st) (defScope st) .none b c d e g h) ⟨[u], []⟩ = (newTuple [] >>= fun t => pure [(p1, u), (pv, t)]))
    (h1 : ∀ (b c d : Value) (e : Option Addr) (g h u r : Value) (rs : List Value), bindArgs (PySem.W.fnOf x ql (defArgs st) (defBody st) (defScope st) .none b c d e g h) ⟨u :: r :: rs, []⟩ = (newTuple (r :: rs) >>= fun t => pure [(p1, u), (pv, t)]))
    (body : ∀ (cd : Value) (A : Around) (outer : List Env) (s : Shared) (H : Hp) (vs : List V) (Q : VK) (E : XK), Room k (A.deeper (envOfC ql (defScope st) s.heap.objs.size f cd)) → sp vs H Q E →
      ∃ t, PSs (cxOf CX P w K mg base N ql (defScope st) f cd A outer s H E) (defBody st) t ∧ t { nx := fun _ H' => Q .non H', rt := Q } (start N vs) H) :
    FnR P w K mg base CX (k + 1) f (spStar 1 sp) := by
  obtain ⟨oc, od, b, c, d, e, g, h, osl, rfl, lk, hcd⟩ := F.ex
  exact star_raw (qs := [p1]) lk hcd S up (StX.bind_star1 (B := fun us => bindArgs (PySem.W.fnOf x ql (defArgs st) (defBody st) (defScope st) .none b c d e g h) ⟨us, []⟩) (h0 b c d e g h) (h1 b c d e g h)) (body g)
theorem Fun.star2 {CX : CXT} {x ql : Str} {st : Stmt} {f : Addr} {fd : FuncData} {N : List Str} {p1 p2 pv : Str} {k : Nat} {sp : Sp} (F : Fun K x ql st f fd) (S : FnScope N [p1, p2, pv] (defScope st)) (up : StX.CXUp CX)
    (h0 : ∀ (b c d : Value) (e : Option Addr) (g h u v : Value), bindArgs (PySem.W.fnOf x ql (defArgs st) (defBody st) (defScope st) .none b c d e g h) ⟨[u, v], []⟩ = (newTuple [] >>= fun t => pure [(p1, u), (p2, v), (pv, t)]))
    (h1 : ∀ (b c d : Value) (e : Option Addr) (g h u v r : Value) (rs : List Value), bindArgs (PySem.W.fnOf x ql (defArgs st) (defBody st) (defScope st) .none b c d e g h) ⟨u :: v :: r :: rs, []⟩ = (newTuple (r :: rs) >>= fun t => pure [(p1, u), (p2, v), (pv, t)]))
    (body : ∀ (cd : Value) (A : Around) (outer : List Env) (s : Shared) (H : Hp) (vs : List V) (Q : VK) (E : XK), Room k (A.deeper (envOfC ql (defScope st) s.heap.objs.size f cd)) → sp vs H Q E →
      ∃ t, PSs (cxOf CX P w K mg base N ql (defScope st) f cd A outer s H E) (defBody st) t ∧ t { nx := fun _ H' => Q .non H', rt := Q } (start N vs) H) :
    FnR P w K mg base CX (k + 1) f (spStar 2 sp) := by
  obtain ⟨oc, od, b, c, d, e, g, h, osl, rfl, lk, hcd⟩ := F.ex
  exact star_raw (qs := [p1, p2]) lk hcd S up (StX.bind_star2 (B := fun us => bindArgs (PySem.W.fnOf x ql (defArgs st) (defBody st) (defScope st) .none b c d e g h) ⟨us, []⟩) (h0 b c d e g h) (h1 b c d e g h)) (body g)
/-- t.m(e), t a tuple that is known as the object it is -/
def tTupM (r : V → List V → Hp → VK → Prop) (to : TE) (t : TA) : TE := fun σ H Q => to σ H fun x H1 => ∃ (p : Addr) (ob : Obj) (ys : List V), x = .ref p ∧ H1 p = some (.frz ob (.tup ys)) ∧ ob.cls = .type "tuple" ∧ ob.dict = none ∧ t σ H1 fun vs H2 => r x vs H2 Q
theorem pe_tupM {X : Cx} {nm : Str} {id : String} {r : V → List V → Hp → VK → Prop} {o e : Expr} {es : List Expr} {to : TE} {t : TA} {ap cp : Pos} (slot : Slot "tuple" nm id) (ty : typeOf (.builtin id) = pure (.type "method_descriptor")) (hm : MtR X id r) (ho : PE X o to) (ha : PA X (e :: es) t)
    (h1 : attributeBase o nm X.env (eval o X.env) = eval o X.env := by rfl)
    (h2 : ((backTo cp (starEach (e :: es) X.env)).all (fun x => !x.1) && (backToKw cp (keywordEach [] X.env)).all (fun x => x.1.isSome) && decide ((e :: es).length + ([] : List Keyword).length + (if ([] : List Keyword).isEmpty then 0 else 1) < 30)) = true := by rfl)
    (h3 : (ap.endLine == cp.line) = true := by rfl) (h4 : starEach (e :: es) X.env = (false, eval e X.env) :: starEach es X.env := by rfl) (h5 : (backTo cp (starEach es X.env)).any (·.1) = false := by rfl) :
    PE X (.Call (.Attribute o nm ap) (e :: es) [] cp) (tTupM r to t) := by
  refine ⟨fun pins s σ H Q I h => wpAny_Call_method_late h1 h2 h3 rfl (thn (ho.run pins s σ H _ I h) ?_)⟩
  rintro v s1 ⟨x, H1, I1, rx, p, ob, ys, rfl, hp, hcl, hd, q⟩
  cases (show v = Value.ref p from rx)
  obtain ⟨hg, _⟩ := (show ObjOk X.prog X.w H1 s1.heap p (.frz ob (.tup ys)) from I1.hok p _ hp)
  refine ⟨"tuple", id, PySem.F.plainAttrs_tuple, slot, ty, ⟨ob, hg, hcl⟩, fun a ea => ?_, ?_⟩
  · cases ea
    exact ⟨ob, hg, hd⟩
  have z := ha.run cp pins s1 σ H1 _ I1 q
  rw [h4] at z ⊢
  refine Calls.callWith_builtin (by show (false || (backTo cp (starEach es X.env)).any (·.1)) = false; rw [h5]; rfl) (Calls.evalArgs_plain (thn z ?_))
  rintro us s2 ⟨vs, H2, I2, rv, q2⟩
  exact hm pins s2 σ H2 (.ref p) vs (.ref p) us Q I2 rfl rv q2
/-- what is raised in a callee passes out of the def -/
theorem passX {X : Cx} {E : XK} (tk : Takes X (fun cls d _ H => E cls d H)) : Passes (L2.CX X.prog X.w) X E := passes_call tk fun _ _ _ _ h => h
end
end OO

/-! Promises of defs that are called where no object is being written out (A.guards = some []): so repr of containers may be asked. -/
namespace OO
open PySem PySem.Spec PyProof.Rows L2 TL GG
/-- as FnOk, where nothing is being written out -/
structure FnG (P : Program) (w : World) (K : PySem.W.Frag) (mg : Str → Option Value) (base : Heap) (CX : CXT) (k : Nat) (f : Addr) (fd : FuncData) (ps : List Str) (sp : Sp) : Prop where
  num : ∀ xs G R Y, sp xs G R Y → xs.length = ps.length
  go : ∀ (B : Around) (out : List Env) (st : Shared) (G : Hp) (as : Args) (ws : List Value) (xs : List V) (R : VK) (Y : XK), Room k B → B.guards = some [] → Env0 P w K mg base B out st G → BindsTo st fd as (ps.zip ws) → Vals xs ws →
    sp xs G R Y → codeAny (model P w) B (.call (.ref f) as) (CR CX out P w G st R Y) st
theorem FnOk.toG {P : Program} {w : World} {K : PySem.W.Frag} {mg : Str → Option Value} {base : Heap} {CX : CXT} {k : Nat} {f : Addr} {fd : FuncData} {ps : List Str} {sp : Sp} (F : FnOk P w K mg base CX k f fd ps sp) : FnG P w K mg base CX k f fd ps sp :=
  ⟨F.len, fun B out st G as ws xs R Y hr _ => F.run B out st G as ws xs R Y hr⟩
section
variable {P : Program} {w : World} {K : PySem.W.Frag} {mg : Str → Option Value} {base : Heap}
/-- the rule for a def, told of its body with the guards known -/
theorem Fun.okG {x qual : Str} {st : Stmt} {f : Addr} {fd : FuncData} {N ps : List Str} {k : Nat} {sp : Sp} (F : Fun K x qual st f fd) (S : FnScope N ps (defScope st)) (len : ∀ vs H Q E, sp vs H Q E → vs.length = ps.length)
    (body : ∀ (cdv : Value) (A : Around) (outer : List Env) (s : Shared) (H : Hp) (vs : List V) (Q : VK) (E : XK), Room k (A.deeper (envOfC qual (defScope st) s.heap.objs.size f cdv)) → A.guards = some [] → sp vs H Q E →
      ∃ t, PSs (cxOf CX0 P w K mg base N qual (defScope st) f cdv A outer s H E).nox (defBody st) t ∧ t { nx := fun _ H' => Q .non H', rt := Q } (start N vs) H) : FnG P w K mg base CX0 (k + 1) f fd ps sp := by
  obtain ⟨oc, od, kV, doc, pm, an, cdv, ct, osl, rfl, rec_, hcode⟩ := F.ex
  refine ⟨len, fun B out st1 G as ws xs R Y hr gd en bnd rel wish => ?_⟩
  have nn := len _ _ _ _ wish
  have inK : K.In st1.heap := en.mod.kin.keeps fun b o z => (en.bs b o z).1
  have room : st1.heap.NoLimit := en.mod.nolimit.keeps fun b o z => (en.bs b o z).1
  refine codeAny_call_function hr.depth (inK _ _ rec_) rfl S.co S.gen rfl (PySem.W.codeRec_of inK hcode) (bnd _ _ _ _ ?_)
  refine wpAny_newFunctionEnv_cells S.kind (fun ⟨n, v⟩ hy => (S.par n (List.of_mem_zip hy).1).imp id fun q => ⟨q, PySem.W.cellsFrom_some _ _ _ (.inl q)⟩) fun env henv st2 inside => ?_
  subst henv
  refine ⟨room.keeps inside.toInCall.keep, codeAny_func ?_⟩
  obtain ⟨t, runs, asked⟩ := body cdv B out st1 G xs R Y (hr.deeper _) gd wish
  have J0 : Inv (cxOf CX0 P w K mg base N qual (defScope st) f cdv B out st1 G Y) [] (start N xs) G st2 := inv_start S hr.hd en nn rel inside
  refine wpAny_mono (runs.nox.run [] st2 (start N xs) G _ J0 asked) (fun way st3 told => ?_) fun _ _ z => z
  cases way with
  | brk =>
    obtain ⟨_, _, _, no⟩ := told
    exact no.elim
  | cont =>
    obtain ⟨_, _, _, no⟩ := told
    exact no.elim
  | next =>
    obtain ⟨σ2, G2, J, z⟩ := told
    exact ⟨V.non, G2, J.os, J.bare, J.base, J.hok, rfl, z⟩
  | ret u =>
    obtain ⟨v, σ2, G2, J, ru, z⟩ := told
    exact ⟨v, G2, J.os, J.bare, J.base, J.hok, ru, z⟩
end
section
variable {X : Cx} {CX : CXT} {k : Nat} {f : Addr} {fd : FuncData} {ps : List Str} {sp : Sp} {x : Str} {p pos : Pos} {e : Expr} {es : List Expr} {t : TA}
theorem run_fnG {pins : List (Addr × Obj)} {σ : L2.St} {H : Hp} {s : Shared} {Q : VK} {us : List Value} {vs : List V} {E : XK} (F : FnG X.prog X.w X.K X.mg X.base CX k f fd ps sp) (gd : X.A.guards = some []) (hr : Room k X.A) (hb : Binds X.K fd ps []) (hx : Passes CX X E)
    (I : Inv X pins σ H s) (r : Vals vs us) (h : sp vs H Q E) : wpAny (model X.prog X.w) X.A (call (.ref f) us) (EP X pins σ Q) X.xe s := by
  have num : (us ++ []).length = ps.length := by rw [List.append_nil, ← r.length]; exact F.num _ _ _ _ h
  refine wpAny_call (codeAny_mono (F.go X.A X.stack s H ⟨us, []⟩ (us ++ []) vs Q E hr gd I.env0 (hb s us I.kIn num) (by rw [List.append_nil]; exact r) h) fun way s' told => ?_)
  rcases way with er | fl
  · exact hx pins σ H s er s' I told
  · cases fl <;> first | exact I.after told | exact told.elim
theorem pe_callG {E : XK} (F : FnG X.prog X.w X.K X.mg X.base CX k f fd ps sp) (gd : X.A.guards = some []) (hr : Room k X.A) (hg : Gl X x) (hm : X.mg x = some (.ref f)) (hk : PySem.W.keepIn X.K (.ref f) = true) (hb : Binds X.K fd ps []) (hx : Passes CX X E)
    (ha : PA X (e :: es) t) (hdb : (x == ("__debug__" : Str)) = false := by decide) (he : starEach (e :: es) X.env = (false, eval e X.env) :: starEach es X.env := by rfl) (hpl : (backTo pos (starEach es X.env)).any (·.1) = false := by rfl) :
    PE X (.Call (.Name x p) (e :: es) [] pos) ((fun σ H Q => t σ H fun vs H1 => sp vs H1 Q E)) := by
  refine ⟨fun pins s σ H Q I h => ?_⟩
  refine wpAny_Call_Name_kw (ld_glob I hg hm ?_ hdb)
  exact PySem.W.callWith_K (h₀ := X.base) I.ok.mod.kin hk (thn (ha.run pos pins s σ H _ I h) fun us s1 ⟨vs, H1, I1, r, q⟩ => ⟨I1.kIn, run_fnG F gd hr hb hx I1 r q⟩) he hpl
/-- repr of data, of an empty dict -/
def rReprD (K : PySem.W.Frag) (xs : List V) (H : Hp) (Q : VK) : Prop := (∃ v d, xs = [v] ∧ Dp K H v d ∧ d.showable = true ∧ d.shown.length ≤ sizeLine ∧ d.depth ≤ 60 ∧ Q (.str d.shown) H) ∨ ∃ a, xs = [.ref a] ∧ H a = some (.dK []) ∧ Q (.str "{}") H
end
end OO

namespace OO
open PySem PySem.Spec PyProof.Rows L2 TL GG
/-- a list, known as the object it is: the law's script -/
def SqE (K : PySem.W.Frag) (H : Hp) (a : Addr) (xs : List V) : Prop := (∃ ob, H a = some (.frz ob (.lst xs))) ∨ ∃ (vs : List Value) (n : Nat), K.lookup a = some { cls := .type "list", data := .seq vs.toArray n } ∧ Vals xs vs ∧ xs.length ≤ sizeLine
/-- script + [..] -/
def rCatE (K : PySem.W.Frag) : R2 := fun x y H Q => ∃ (l b : Addr) (xs zs : List V), x = .ref l ∧ y = .ref b ∧ SqE K H l xs ∧ H b = some (.lst zs) ∧ xs.length + zs.length ≤ sizeLine ∧ ∀ p, H p = none → Q (.ref p) (upd H p (.lst (xs ++ zs)))
theorem op_catE {X : Cx} : OpR X (binaryOp .Add) (rCatE X.K) := by
  intro pins s σ H x y v u Q I rx ry h
  obtain ⟨l, b, xs, zs, rfl, rfl, hE, hB, hz, q⟩ := h
  cases rx
  cases ry
  obtain ⟨its, n, r, e⟩ : ∃ (its : List Value) (n : Nat), Vals xs its ∧ s.heap.get? l = some { cls := .type "list", data := .seq its.toArray n } := by
    rcases hE with ⟨ob, hf⟩ | ⟨vs, n, hk, rv, _⟩
    · obtain ⟨_, _, its, n, rv, here⟩ := (show ObjOk X.prog X.w H s.heap l (.frz ob (.lst xs)) from I.hok l _ hf)
      exact ⟨its, n, rv, here⟩
    · exact ⟨vs, n, rv, I.kIn _ _ hk⟩
  obtain ⟨z2, its2, n2, r2, hl2, e2⟩ := I.lstM hB
  refine PySem.P.add_list e e2 ?_ (by rw [List.size_toArray, List.size_toArray, ← r.length, ← r2.length]; exact hz)
  have both : its.toArray ++ its2.toArray = (its ++ its2).toArray := by simp
  rw [both]
  exact ⟨.ref _, _, I.lnew (t' := s.toks) (r.append r2) (by rw [List.length_append]; exact hz), rfl, q _ I.fresh⟩
/-- what is tracked ahead of the law: its script, where the written part doesn't hold it -/
def H1st (K : PySem.W.Frag) (a : Addr) (vs : List Value) (ns : List Int) : Hp := fun b => if b = a ∧ K.lookup a = none then some (.frz { cls := .type "list", data := .seq vs.toArray } (.lst (ns.map V.int))) else none
theorem h1st_cases (K : PySem.W.Frag) (a : Addr) (vs : List Value) (ns : List Int) (b : Addr) : H1st K a vs ns b = none ∨ (b = a ∧ K.lookup a = none ∧ H1st K a vs ns b = some (.frz { cls := .type "list", data := .seq vs.toArray } (.lst (ns.map V.int)))) := by
  unfold H1st
  by_cases h : b = a ∧ K.lookup a = none
  · exact .inr ⟨h.1, h.2, if_pos h⟩
  · exact .inl (if_neg h)
theorem law_goG {P : Program} {w : World} {K : PySem.W.Frag} {mg mb : Str → Option Value} {k : Nat} {fa a : Addr} {fd : FuncData} {x : Str} {sp : Sp} {st : Shared} {vs : List Value} {ns : List Int}
    (inK : K.In st.heap) (top : st.heap.Ns mainGlobals mg) (blt : st.heap.Ns builtinsNs mb) (boot : ∀ x : Str, x ≠ "__name__" → mb x = bootBuiltins x) (room : st.heap.NoLimit) (quiet : st.gens = #[])
    (here : st.heap.get? a = some { cls := .type "list", data := .seq vs.toArray }) (are : IntsAre vs ns) (len : ns.length ≤ sizeLine) (hr : Room k callerA)
    (F : ∀ base : Heap, K.In base → base.Ns mainGlobals mg → FnG P w K mg base CX0 k fa fd [x] sp) (bnd : ∀ (s : Shared) (u : Value), BindsTo s fd ⟨[u], []⟩ [(x, u)])
    (wish : ∀ H : Hp, SqL K H a (ns.map V.int) → SqE K H a (ns.map V.int) → sp [.ref a] H (fun v _ => v = .bl true) fun _ _ _ => False) :
    codeAny (model P w) callerA (.call (.ref fa) ⟨[.ref a], []⟩) (fun r s' => r = .ok (.ret (.bool true)) ∧ OldK st.heap s'.heap ∧ s'.os = st.os ∧ AllBare s'.gens) st := by
  have rel := vals_ints are
  have size := are.length
  have hS : SqL K (H1st K a vs ns) a (ns.map V.int) := by
    cases q : K.lookup a with
    | none => exact .inl (.inr ⟨{ cls := .type "list", data := .seq vs.toArray }, if_pos ⟨rfl, q⟩⟩)
    | some o =>
      have z := inK a o q
      rw [here] at z
      cases z
      exact .inr ⟨_, vs.toArray, _, q, rfl, rfl, rfl, by rw [List.size_toArray, size]; exact len, by simpa using rel⟩
  have hE : SqE K (H1st K a vs ns) a (ns.map V.int) := by
    cases q : K.lookup a with
    | none => exact .inl ⟨{ cls := .type "list", data := .seq vs.toArray }, if_pos ⟨rfl, q⟩⟩
    | some o =>
      have z := inK a o q
      rw [here] at z
      cases z
      exact .inr ⟨vs, _, q, rel, by rw [List.length_map]; exact len⟩
  have hok : HOk P w (H1st K a vs ns) st.heap := fun b u z => by
    rcases h1st_cases K a vs ns b with n | ⟨rfl, _, y⟩
    · rw [n] at z
      cases z
    · rw [y] at z
      cases z
      exact ⟨here, by rw [List.length_map]; exact len, vs, _, rel, here⟩
  have nsT : ∀ {b : Addr} {m : Str → Option Value}, st.heap.Ns b m → (hidT st.heap (H1st K a vs ns)).Ns b m := fun {b m} ⟨o, es, ep, e, d, r⟩ => ⟨o, es, ep, hidT_get e (by
    rcases h1st_cases K a vs ns b with n | ⟨rfl, _, _⟩
    · exact n
    · rw [here] at e
      cases e
      exact nomatch (show Data.seq vs.toArray _ = Data.dict es ep from d)), d, r⟩
  have inT : K.In (hidT st.heap (H1st K a vs ns)) := fun b o e => hidT_get (inK b o e) (by
    rcases h1st_cases K a vs ns b with n | ⟨rfl, n, _⟩
    · exact n
    · rw [n] at e
      cases e)
  have md : Mod K mg (hidT st.heap (H1st K a vs ns)) := ⟨inT, nsT top, ⟨mb, nsT blt, boot⟩, let ⟨mc, h1, h2⟩ := room; ⟨mc, nsT h1, h2⟩⟩
  have en : Env0 P w K mg (hidT st.heap (H1st K a vs ns)) callerA [] st (H1st K a vs ns) := ⟨rfl, md, fun b o e => of_hidT e, Nat.le_of_eq (hidT_size _ _), trivial, fun b hb => absurd (show b ∈ ([] : List Addr) from hb) (by simp), hok, AllBare.of_eq quiet⟩
  refine codeAny_mono ((F _ inT (nsT top)).go callerA [] st _ ⟨[.ref a], []⟩ [.ref a] [.ref a] _ _ hr rfl en (bnd st (.ref a)) (.cons rfl .nil) (wish _ hS hE)) fun way s' told => ?_
  rcases way with er | fl
  · exact told.elim
  · cases fl with
    | next => exact told.elim
    | brk => exact told.elim
    | cont => exact told.elim
    | ret u =>
      obtain ⟨v, H', os, bare, un, hok', rv, ev⟩ := told
      cases ev
      cases (show u = Value.bool true from rv)
      refine ⟨rfl, OldK.of_keep fun b o e => ?_, os, bare⟩
      rcases h1st_cases K a vs ns b with n | ⟨rfl, _, y⟩
      · exact un.keep b o e n (fun z => nomatch z) (by simp)
      · have z1 := (hok b _ y).1
        rw [e] at z1
        cases z1
        exact (hok' b _ (un.frzs b _ _ y)).1
theorem walk_G {l : PySem.W.OpenLaw} {n k : Nat} {q : Program} {loose : List Str} {XP : (Str → Option Value) → Heap → Prop} {YP : World → Heap → Prop} {d : DefRec} {K : Params → PySem.W.Frag} {sp : World → Sp} {x : Str}
    (hn : l.most = some n) (hn2 : n ≤ sizeLine) (hdf : d.params.defaults = []) (hr : Room k callerA) (hY : ∀ (w : World) (h : Heap), YP w h → (K w.params).In h)
    (F : ∀ (w : World) (mg : Str → Option Value) (fa : Addr) (h : Heap), (K w.params).In h → h.Ns mainGlobals mg → mg d.name = some (.ref fa) →
      ∃ fd : FuncData, (∀ (s : Shared) (u : Value), BindsTo s fd ⟨[u], []⟩ [(x, u)]) ∧ ∀ base : Heap, (K w.params).In base → base.Ns mainGlobals mg → FnG l.prog w (K w.params) mg base CX0 k fa fd [x] (sp w))
    (wish : ∀ (w : World) (H : Hp) (a : Addr) (ns : List Int), ns.length ≤ n → SqL (K w.params) H a (ns.map V.int) → SqE (K w.params) H a (ns.map V.int) → sp w [.ref a] H (fun v _ => v = .bl true) fun _ _ _ => False) :
    PySem.W.WalkO q loose XP YP l.row.toRowW d [] (fun f vs => PySem.call f vs) := by
  refine Att.attach_call hn hdf fun w s₀ st mg mb fa o pm cd doc a vs ns G Y ho hd hcd hmg hobj hints hlen hg => ?_
  obtain ⟨fd, hb, hF⟩ := F w mg fa _ (hY w _ Y) G.T.g hmg
  exact law_goG (hY w _ Y) G.T.g G.T.b G.T.builtins G.T.nolimit hg hobj hints (Nat.le_trans hlen hn2) hr hF hb fun H hS hE => wish w H a ns hlen hS hE
section
variable {X : Cx}
mutual
theorem dp_noDict {K : PySem.W.Frag} {H : Hp} : ∀ (d : PyData) (v : V), Dp K H v d → d.hasDict = false
  | .none, _, _ => by simp only [PyData.hasDict]
  | .bool _, _, _ => by simp only [PyData.hasDict]
  | .int _, _, _ => by simp only [PyData.hasDict]
  | .str _, _, _ => by simp only [PyData.hasDict]
  | .list ds, _, h => by
    cases h with
    | lst _ ha =>
      simp only [PyData.hasDict]
      exact dpAll_noDict ds _ ha
  | .tuple ds, _, h => by
    cases h with
    | tup _ ha =>
      simp only [PyData.hasDict]
      exact dpAll_noDict ds _ ha
  | .dict _, _, h => by cases h
theorem dpAll_noDict {K : PySem.W.Frag} {H : Hp} : ∀ (ds : List PyData) (vs : List V), DpAll K H vs ds → PyData.hasDictAll ds = false
  | [], _, _ => by simp only [PyData.hasDictAll]
  | d :: ds, _, h => by
    cases h with
    | cons h1 h2 => simp only [PyData.hasDictAll, dp_noDict d _ h1, dpAll_noDict ds _ h2, Bool.or_self]
end
/-- repr(x) of data -/
theorem call_reprD (gd : X.A.guards = some []) (hu : X.A.units + 65 < cLine) : CallR X (.builtin "repr") (rReprD X.K) := by
  intro pins s σ H xs us Q I r h
  rcases h with ⟨v, d, rfl, hd, hs, hz, hdp, q⟩ | ⟨a, rfl, hk, q⟩
  · obtain ⟨u, rfl, ru⟩ := vals1 r
    cases hd with
    | non =>
      cases (show u = Value.none from ru)
      exact PySem.P.repr_of_none ⟨.str _, H, I.tok _, ⟨_, rfl⟩, q⟩
    | bl b =>
      cases (show u = Value.bool b from ru)
      refine PySem.P.repr_of_bool ⟨.str _, H, I.tok _, ⟨_, rfl⟩, ?_⟩
      cases b <;> exact q
    | int i =>
      obtain ⟨t, rfl⟩ := ru
      have hi : i.natAbs.log2 < 1920 := by simpa [PyData.showable] using hs
      exact PySem.P.repr_of_int hi ⟨.str _, H, I.tok _, ⟨_, rfl⟩, q⟩
    | str y =>
      obtain ⟨t, rfl⟩ := ru
      exact PySem.P.repr_of_str ⟨.str _, H, I.tok _, ⟨_, rfl⟩, q⟩ hz
    | lst hl ha =>
      cases (show u = Value.ref _ from ru)
      obtain ⟨as, rd⟩ := Dp.reads I _ _ _ (.lst hl ha) rfl
      exact PySem.repr_of_reads' rd hs (PyData.noDict_hsm (dp_noDict _ _ (.lst hl ha))) gd (by omega) (fun _ _ z => z) (fun h' u tk hk => ⟨.str _, H, I.kept (t' := tk) hk, ⟨_, rfl⟩, q⟩) hz
    | tup hl ha =>
      cases (show u = Value.ref _ from ru)
      obtain ⟨as, rd⟩ := Dp.reads I _ _ _ (.tup hl ha) rfl
      exact PySem.repr_of_reads' rd hs (PyData.noDict_hsm (dp_noDict _ _ (.tup hl ha))) gd (by omega) (fun _ _ z => z) (fun h' u tk hk => ⟨.str _, H, I.kept (t' := tk) hk, ⟨_, rfl⟩, q⟩) hz
  · obtain ⟨u, rfl, ru⟩ := vals1 r
    cases (show u = Value.ref a from ru)
    obtain ⟨_, hne, vs, kv, o, es, ep, ho, ex, hd, _, pr, _⟩ := dk_of I.hok hk
    cases kv
    have he : es.toList = [] := by cases hes : es.toList with
      | nil => rfl
      | cons _ _ =>
        rw [hes] at pr
        cases pr
    have rd : Reads s.heap (.ref a) (.dict []) [a] := Reads.dict (as := []) (bs := []) (kvs := []) ho ex.1 hd (by rw [he]; exact .nil) (by rw [he]; exact .nil)
    exact PySem.repr_of_reads' rd rfl (fun _ hm => by
      rcases List.mem_cons.mp hm with e | e
      · rw [← e] at hne
        exact absurd (beq_self_eq_true _) (by rw [hne]; exact Bool.false_ne_true)
      · exact nomatch e) gd (by show X.A.units + (PyData.depth (.dict []) + 1) < cLine; have : PyData.depth (.dict []) ≤ 2 := (by decide +kernel); omega) (fun _ _ z => z) (fun h' u tk hk => ⟨.str _, H, I.kept (t' := tk) hk, ⟨_, rfl⟩, q⟩) (by decide +kernel)
end
end OO

/-! Operators of a program's own objects: ==, !=, in, not in, [] by their own methods. -/
namespace PySem.W
open PySem PySem.Calls PyProof.Rows Builtin
section
variable {prog : Program} {w : World} {A : Around} {E : Value → Shared → Prop} {s : Shared} {K : Frag} {x C f : Addr} {ox : Obj} {od : Option Obj} {b tb : Value}
/-- a built-in method of the class, bound where it is there -/
theorem boundB {M : Model} {name : Str} {id : String} {args : List Value} {Q : Option Value → Shared → Prop} (X : K.In s.heap) (I : InstAt s.heap x ox C od) (there : findIn K (.ref C) name = some (some (.builtin id))) (bnd : ∀ self, bindSpecial (.builtin id) self = pure (.builtin id, [self]))
    (z : wpAny M A (call (.builtin id) (.ref x :: args)) (fun v => Q (some v)) E s) : wpAny M A (callSpecialIfBound? (.ref x) name args) Q E s := by
  have lk : Looks M s.heap (bindSpecial (.builtin id) (.ref x)) (.builtin id, [.ref x]) := .of_pure (bnd _)
  simp only [callSpecialIfBound?, bindSpecialIfBound?]
  refine wpAny_holding (wpAny_bind (wpAny_bind (wpAny_bind (I.type.here ((looks_findIn X there).here ?_)))))
  refine wpAny_bind (wpAny_askSetting (wpAny_ite ?_))
  have rest : wpAny M A (call (.builtin id) ([.ref x] ++ args) >>= fun v => pure (some v)) Q E s := wpAny_bind (wpAny_mono z (fun v s' y => wpAny_pure y) fun _ _ y => y)
  split
  · exact wpAny_bind (lk.here (wpAny_pure (by exact rest)))
  · exact wpAny_tryCatch (wpAny_bind (lk.here (wpAny_pure (by exact rest))))
/-- != by the own __eq__, where the class has no __ne__ -/
theorem ne_own {Q : Value → Shared → Prop} (hu : A.units + 1 < cLine) (X : K.In s.heap) (I : InstAt s.heap x ox C od) (hb : Looks (model prog w) s.heap (typeOf b) tb) (hn : notFirst K C tb = true) (no : findIn K (.ref C) "__ne__" = some (some (.builtin "object.__ne__")))
    (ob : mroIn K C (.type "object") = some true) (eq_ : findIn K (.ref C) "__eq__" = some (some (.ref f))) (fn : isFn K (.ref f) = true)
    (z : wpAny (model prog w) A.in1 (call (.ref f) [.ref x, b]) (fun v s' => ∃ c : Bool, v = .bool c ∧ Q (.bool (!c)) s') E s) : wpAny (model prog w) A (richCompare .NotEq (.ref x) b) Q E s := by
  have sub : Looks (model prog w) s.heap (isInstance (.ref x) (.type "object")) true := I.type.andThen (looks_mroIn X ob)
  have one : wpAny (model prog w) A (tryCompare (.ref x) "__ne__" b) (fun r s' => ∃ v, r = some v ∧ Q v s') E s := by
    unfold tryCompare
    refine wpAny_bind (boundB X I no F.cmp_object.ne.bind (wpAny_call (codeAny_call_builtin F.cmp_object.ne.plain F.cmpEntry_ne (check_slot F.cmpKind_ne F.cmpSplit_ne sub (F.cmpArgs_ne _ _) ?_))))
    unfold Builtin.«object.__ne__»
    repeat (first
      | with_reducible refine wpAny_cRoomFor (show A.in1.units < cLine from hu) ?_
      | (refine wpAny_bind (m := callSpecialIfBound? (.ref x) (Str.ofString "__eq__") [b]) (ifBound_K X I eq_ fn (wpAny_mono z (fun r s' hr => by
            obtain ⟨c, rfl, q⟩ := hr
            repeat (first | exact ⟨_, rfl, wpAny_pure ⟨_, rfl, q⟩⟩ | exact wpAny_pure ⟨_, rfl, q⟩ | exact ⟨_, rfl, q⟩ | (refine wpAny_bind (m := truthy (.bool _)) (wpAny_truthy_bool ?_)) | wp_step)) fun _ _ y => y)))
      | wp_step)
  unfold richCompare
  simp only [oneThing_ref]
  refine wpAny_holding (wpAny_bind (wpAny_cRoomFor (Nat.lt_of_succ_lt hu) ?_))
  refine wpAny_bind (I.type.here (wpAny_bind (hb.here ?_)))
  split
  · rename_i q
    have e : subIn K tb (.ref C) = some false := by
      rcases Bool.or_eq_true_iff.mp hn with e | e
      · rw [beq_iff_eq.mp e] at q; simp at q
      · exact beq_iff_eq.mp e
    refine wpAny_bind ((looks_subIn X e).here ?_)
    simp only [Bool.false_eq_true, if_false]
    refine wpAny_bind (wpAny_mono one (fun r s' y => ?_) fun _ _ y => y)
    obtain ⟨v, rfl, q2⟩ := y
    exact wpAny_pure q2
  · refine wpAny_bind (wpAny_pure ?_)
    simp only [Bool.false_eq_true, if_false]
    refine wpAny_bind (wpAny_mono one (fun r s' y => ?_) fun _ _ y => y)
    obtain ⟨v, rfl, q2⟩ := y
    exact wpAny_pure q2
end
end PySem.W
namespace OO
open PySem PySem.Spec PyProof.Rows L2 TL GG
section
variable {X : Cx} {k : Nat} {g C : Addr} {sp : Sp} {pins : List (Addr × Obj)} {σ : L2.St} {H : Hp} {s : Shared} {y : V} {u t : Value}
theorem looksY (I : Inv X pins σ H s) (r : RelV y u) (ty : TyX X.K H y t) {M : Model} : PySem.W.Looks M s.heap (typeOf u) t := by
  obtain ⟨P, z, p, _⟩ := kit_of I r ty
  exact z.ty M s.heap I.kIn p
/-- x == y, x != y, x an instance of the class at C, by its __eq__ -/
def rCmpO (K : PySem.W.Frag) (C : Addr) (sp : Sp) (neg : Bool) : R2 := fun x y H Q => ∃ (a dx : Addr) (fs : List (Str × V)) (t : Value), x = .ref a ∧ H a = some (.ins C dx fs) ∧ TyX K H y t ∧ PySem.W.notFirst K C t = true ∧
  sp [.ref a, y] H (fun v H' => ∃ b : Bool, v = .bl b ∧ Q (.bl (if neg = true then !b else b)) H') E0
theorem op_eqO (F : FnR X.prog X.w X.K X.mg X.base CX0 k g sp) (hr : Room k X.A) (hs : PySem.W.findIn X.K (.ref C) "__eq__" = some (some (.ref g))) (hf : PySem.W.isFn X.K (.ref g) = true) : OpR X (compareOp .Eq) (rCmpO X.K C sp false) := by
  intro pins s σ H x y v u Q I rx ry h
  obtain ⟨a, dx, fs, t, rfl, ha, ty, nf, h⟩ := h
  cases (show v = Value.ref a from rx)
  obtain ⟨mA, O, _⟩ := ins_get I.hok ha
  obtain ⟨od, J, _⟩ := O.look
  obtain ⟨m, fr⟩ := I.fr
  show wpAny _ _ (richCompare .Eq (.ref a) u) _ _ _
  refine PySem.W.cmp_K (op := .Eq) (Nat.lt_of_le_of_lt (Nat.le_add_right _ _) hr.units) fr I.ok.mod.kin J (looksY I ry ty) nf hs hf (wpAny_call (codeAny_mono (F X.A X.stack s H [.ref a, u] [.ref a, y] _ E0 hr I.env0 (.cons rfl (.cons ry .nil)) h) fun way s' told => ?_))
  rcases way with er | fl
  · exact told.elim
  · cases fl with
    | next => exact told.elim
    | brk => exact told.elim
    | cont => exact told.elim
    | ret u2 =>
      obtain ⟨v2, H2, I2, r2, b, rfl, q⟩ := I.after told
      cases (show u2 = Value.bool b from r2)
      exact ⟨.bl b, H2, I2, rfl, q⟩
theorem op_neO (F : FnR X.prog X.w X.K X.mg X.base CX0 k g sp) (hr : Room (k + 1) X.A) (no : PySem.W.findIn X.K (.ref C) "__ne__" = some (some (.builtin "object.__ne__"))) (ob : PySem.W.mroIn X.K C (.type "object") = some true)
    (hs : PySem.W.findIn X.K (.ref C) "__eq__" = some (some (.ref g))) (hf : PySem.W.isFn X.K (.ref g) = true) : OpR X (compareOp .NotEq) (rCmpO X.K C sp true) := by
  intro pins s σ H x y v u Q I rx ry h
  obtain ⟨a, dx, fs, t, rfl, ha, ty, nf, h⟩ := h
  cases (show v = Value.ref a from rx)
  obtain ⟨mA, O, _⟩ := ins_get I.hok ha
  obtain ⟨od, J, _⟩ := O.look
  show wpAny _ _ (richCompare .NotEq (.ref a) u) _ _ _
  refine PySem.W.ne_own (Nat.lt_of_le_of_lt (Nat.add_le_add_left (by decide : 1 ≤ 64) _) hr.units) I.kIn J (looksY I ry ty) nf no ob hs hf (wpAny_call (codeAny_mono (F X.A.in1 X.stack s H [.ref a, u] [.ref a, y] _ E0 hr.in1 I.env0.in1 (.cons rfl (.cons ry .nil)) h) fun way s' told => ?_))
  rcases way with er | fl
  · exact told.elim
  · cases fl with
    | next => exact told.elim
    | brk => exact told.elim
    | cont => exact told.elim
    | ret u2 =>
      obtain ⟨v2, H2, I2, r2, b, rfl, q⟩ := I.after told
      cases (show u2 = Value.bool b from r2)
      exact ⟨b, rfl, .bl (!b), H2, I2, rfl, q⟩
/-- x in y, x not in y, y an instance of the class at C, by its __contains__ -/
def rInO (C : Addr) (sp : Sp) (neg : Bool) : R2 := fun x y H Q => ∃ (a dx : Addr) (fs : List (Str × V)), y = .ref a ∧ H a = some (.ins C dx fs) ∧ sp [.ref a, x] H (fun v H' => ∃ b : Bool, v = .bl b ∧ Q (.bl (if neg = true then !b else b)) H') E0
theorem op_inO (F : FnR X.prog X.w X.K X.mg X.base CX0 k g sp) (hr : Room k X.A) (hs : PySem.W.findIn X.K (.ref C) "__contains__" = some (some (.ref g))) (hf : PySem.W.isFn X.K (.ref g) = true) : OpR X (compareOp .In) (rInO C sp false) := by
  intro pins s σ H x y v u Q I rx ry h
  obtain ⟨a, dx, fs, rfl, ha, h⟩ := h
  cases (show u = Value.ref a from ry)
  obtain ⟨mA, O, _⟩ := ins_get I.hok ha
  obtain ⟨od, J, _⟩ := O.look
  obtain ⟨m, fr⟩ := I.fr
  refine PySem.W.in_K fr I.ok.mod.kin J hs hf (wpAny_call (codeAny_mono (F X.A X.stack s H [.ref a, v] [.ref a, x] _ E0 hr I.env0 (.cons rfl (.cons rx .nil)) h) fun way s' told => ?_))
  rcases way with er | fl
  · exact told.elim
  · cases fl with
    | next => exact told.elim
    | brk => exact told.elim
    | cont => exact told.elim
    | ret u2 =>
      obtain ⟨v2, H2, I2, r2, b, rfl, q⟩ := I.after told
      cases (show u2 = Value.bool b from r2)
      exact wpAny_truthy_bool ⟨.bl b, H2, I2, rfl, q⟩
theorem op_notInO (F : FnR X.prog X.w X.K X.mg X.base CX0 k g sp) (hr : Room k X.A) (hs : PySem.W.findIn X.K (.ref C) "__contains__" = some (some (.ref g))) (hf : PySem.W.isFn X.K (.ref g) = true) : OpR X (compareOp .NotIn) (rInO C sp true) := by
  intro pins s σ H x y v u Q I rx ry h
  obtain ⟨a, dx, fs, rfl, ha, h⟩ := h
  cases (show u = Value.ref a from ry)
  obtain ⟨mA, O, _⟩ := ins_get I.hok ha
  obtain ⟨od, J, _⟩ := O.look
  obtain ⟨m, fr⟩ := I.fr
  refine PySem.W.notIn_K fr I.ok.mod.kin J hs hf (wpAny_call (codeAny_mono (F X.A X.stack s H [.ref a, v] [.ref a, x] _ E0 hr I.env0 (.cons rfl (.cons rx .nil)) h) fun way s' told => ?_))
  rcases way with er | fl
  · exact told.elim
  · cases fl with
    | next => exact told.elim
    | brk => exact told.elim
    | cont => exact told.elim
    | ret u2 =>
      obtain ⟨v2, H2, I2, r2, b, rfl, q⟩ := I.after told
      cases (show u2 = Value.bool b from r2)
      exact wpAny_truthy_bool ⟨.bl (!b), H2, I2, rfl, q⟩
/-- x[i], x an instance of the class at C, by its __getitem__ -/
def tIxO (C : Addr) (sp : Sp) (E : L2.St → XK) (ta tb : TE) : TE := fun σ H Q => ta σ H fun x H1 => tb σ H1 fun y H2 => ∃ (a dx : Addr) (fs : List (Str × V)), x = .ref a ∧ H2 a = some (.ins C dx fs) ∧ sp [.ref a, y] H2 Q (E σ)
theorem pe_ixO {CX : CXT} {E : L2.St → XK} {a b : Expr} {ta tb : TE} {pos : Pos} (F : FnR X.prog X.w X.K X.mg X.base CX k g sp) (hr : Room (k + 1) X.A) (hx : ∀ σ, PassesAt CX X σ (E σ)) (ha : PE X a ta) (hb : PE X b tb) (hs : PySem.W.findIn X.K (.ref C) "__getitem__" = some (some (.ref g)))
    (hk : PySem.W.fnIn X.K g = true) (hf : PySem.W.isFn X.K (.ref g) = true) (hsl : ∀ v i : Value, subscripted b true v i = runValue (.builtin "lifetime.subscript" ⟨[v, i], []⟩) := by intro _ _; rfl) : PE X (.Subscript a b pos) (tIxO C sp E ta tb) := by
  refine ⟨fun pins s σ H Q I h => ?_⟩
  refine Subscript_ (binT ha hb I (R := fun x y H2 => ∃ (a dx : Addr) (fs : List (Str × V)), x = .ref a ∧ H2 a = some (.ins C dx fs) ∧ sp [.ref a, y] H2 Q (E σ)) h fun v u s2 x y H2 I2 rx ry q => ?_)
  obtain ⟨p, dx, fs, rfl, hp, q⟩ := q
  cases (show v = Value.ref p from rx)
  obtain ⟨mA, O, _⟩ := ins_get I2.hok hp
  obtain ⟨od, J, _⟩ := O.look
  obtain ⟨m, fr⟩ := I2.fr
  refine PySem.W.sub_K fr I2.ok.mod.kin J hs hk hf (wpAny_call (codeAny_mono (F X.A.in1 X.stack s2 H2 [.ref p, u] [.ref p, y] _ (E σ) hr.in1 I2.env0.in1 (.cons rfl (.cons ry .nil)) q) fun way s' told => ?_)) (hsl _ _)
  rcases way with er | fl
  · exact hx σ pins H2 s2 er s' I2 told
  · cases fl <;> first | exact I2.after told | exact told.elim
end
end OO

/-! The rows that the laws draw, as data: what they keep. -/
namespace GG
open PySem PySem.Spec PyProof.Rows L2 TL
abbrev T1 (w : Str) : PyData := .tuple [.str w]
abbrev TS (n : Str) : PyData := .tuple [.str "start", .str n]
abbrev TA3 (m : Str) (o : List PyData) : PyData := .tuple [.str "ask", .str m, .tuple o]
/-- items that keep the rules from where one is under way (u), has the lock (l): to the end, closed; ns, ms: the names of works and marks; t: let may be the last one; a: asks may be there -/
inductive RowOk (ns ms : List Str) (t : Bool) : Bool → Bool → Bool → List PyData → Prop
  | nil {a} : RowOk ns ms t a false false []
  | lets {a} : t = true → RowOk ns ms t a false false [T1 "let"]
  | plain {a u l w r} : w ∈ (["touch", "use"] : List Str) → RowOk ns ms t a u l r → RowOk ns ms t a u l (T1 w :: r)
  | start {a u l n r} : n ∈ ns → RowOk ns ms t a u l r → RowOk ns ms t a u l (TS n :: r)
  | enter {a l r} : RowOk ns ms t a true l r → RowOk ns ms t a false l (T1 "enter" :: r)
  | leave {a l r} : RowOk ns ms t a false l r → RowOk ns ms t a true l (T1 "leave" :: r)
  | lock {a u r} : RowOk ns ms t a u true r → RowOk ns ms t a u false (T1 "lock" :: r)
  | unlock {a u r} : RowOk ns ms t a u false r → RowOk ns ms t a u true (T1 "unlock" :: r)
  | ask {u l m o r} : m ∈ ms → RowOk ns ms t false u l o → o.length ≤ 4 → RowOk ns ms t true u l r → RowOk ns ms t true u l (TA3 m o :: r)
/-- the number of items, with those in ways out -/
def size1 : PyData → Nat
  | .tuple [_, _, .tuple o] => 1 + o.length
  | _ => 1
def sizeR (r : List PyData) : Nat := (r.map size1).sum
theorem sizeR_app (a b : List PyData) : sizeR (a ++ b) = sizeR a + sizeR b := by
  unfold sizeR
  rw [List.map_append, List.sum_append]
/-- what a way's end may be -/
def IsClosing (u l t : Bool) (c : List PyData) : Prop := ∃ b k : List PyData, c = b ++ k ∧ (k = [] ∨ (t = true ∧ k = [T1 "let"])) ∧
  (b = (if l then [T1 "unlock"] else []) ++ (if u then [T1 "leave"] else []) ∨ b = (if u then [T1 "leave"] else []) ++ (if l then [T1 "unlock"] else []))
theorem IsClosing.ok {ns ms : List Str} {u l t a : Bool} {c : List PyData} (h : IsClosing u l t c) : RowOk ns ms t a u l c ∧ sizeR c ≤ 3 ∧ c.length ≤ 3 := by
  obtain ⟨b, k, rfl, hk, hb⟩ := h
  have e : RowOk ns ms t a false false k ∧ sizeR k ≤ 1 ∧ k.length ≤ 1 := by
    rcases hk with rfl | ⟨ht, rfl⟩
    · exact ⟨.nil, by decide, by decide⟩
    · exact ⟨.lets ht, by decide +kernel, by decide⟩
  obtain ⟨e1, e2, e3⟩ := e
  have s1 : sizeR [T1 "unlock"] = 1 := rfl
  have s2 : sizeR [T1 "leave"] = 1 := rfl
  cases u <;> cases l <;> rcases hb with rfl | rfl <;> simp only [if_true, Bool.false_eq_true, if_false, List.nil_append, List.append_nil, List.cons_append, List.length_cons, List.length_append] at *
  · exact ⟨e1, by omega, by omega⟩
  · exact ⟨e1, by omega, by omega⟩
  · exact ⟨.unlock e1, by show 1 + sizeR k ≤ 3; omega, by omega⟩
  · exact ⟨.unlock e1, by show 1 + sizeR k ≤ 3; omega, by omega⟩
  · exact ⟨.leave e1, by show 1 + sizeR k ≤ 3; omega, by omega⟩
  · exact ⟨.leave e1, by show 1 + sizeR k ≤ 3; omega, by omega⟩
  · exact ⟨.unlock (.leave e1), by show 1 + (1 + sizeR k) ≤ 3; omega, by omega⟩
  · exact ⟨.leave (.unlock e1), by show 1 + (1 + sizeR k) ≤ 3; omega, by omega⟩
/-- items so far: whatever goes on well from u, l, is well from the beginning -/
def Pfx (ns ms : List Str) (t a : Bool) (items : List PyData) (u l : Bool) : Prop := ∀ r, RowOk ns ms t a u l r → RowOk ns ms t a false false (items ++ r)
theorem Pfx.nil {ns ms : List Str} {t a : Bool} : Pfx ns ms t a [] false false := fun r h => h
theorem Pfx.snoc {ns ms : List Str} {t a : Bool} {items : List PyData} {u l u' l' : Bool} {i : PyData} (h : Pfx ns ms t a items u l) (k : ∀ r, RowOk ns ms t a u' l' r → RowOk ns ms t a u l (i :: r)) : Pfx ns ms t a (items ++ [i]) u' l' := fun r hr => by
  rw [List.append_assoc]
  exact h _ (k r hr)
/-- u behind an item of the word w, as the law reckons it -/
abbrev nextB (u : Bool) (w a b : Str) : Bool := !decide (V.bl u = V.bl (inV (.str w) [.str a, .str b]))
/-- an item that may stand where one is at u, l -/
def ItemFor (ns ms : List Str) (t u l : Bool) (w : Str) (rest : List PyData) : Prop :=
  ∀ r, RowOk ns ms t true (nextB u w "enter" "leave") (nextB l w "lock" "unlock") r → RowOk ns ms t true u l (.tuple (.str w :: rest) :: r)
theorem item_plain {ns ms : List Str} {t u l : Bool} {w : Str} (h : w ∈ (["touch", "use"] : List Str)) : ItemFor ns ms t u l w [] := by
  intro r hr
  simp only [List.mem_cons, List.not_mem_nil, or_false] at h
  rcases h with rfl | rfl
  · have e1 : nextB u "touch" "enter" "leave" = u := by cases u <;> decide +kernel
    have e2 : nextB l "touch" "lock" "unlock" = l := by cases l <;> decide +kernel
    rw [e1, e2] at hr
    exact .plain (by decide) hr
  · have e1 : nextB u "use" "enter" "leave" = u := by cases u <;> decide +kernel
    have e2 : nextB l "use" "lock" "unlock" = l := by cases l <;> decide +kernel
    rw [e1, e2] at hr
    exact .plain (by decide) hr
theorem item_el {ns ms : List Str} {t u l : Bool} : ItemFor ns ms t u l (if u = true then "leave" else "enter") [] := by
  intro r hr
  cases u with
  | true =>
    have e1 : nextB true "leave" "enter" "leave" = false := by decide +kernel
    have e2 : nextB l "leave" "lock" "unlock" = l := by cases l <;> decide +kernel
    have hr : RowOk ns ms t true (nextB true "leave" "enter" "leave") (nextB l "leave" "lock" "unlock") r := hr
    rw [e1, e2] at hr
    exact .leave hr
  | false =>
    have e1 : nextB false "enter" "enter" "leave" = true := by decide +kernel
    have e2 : nextB l "enter" "lock" "unlock" = l := by cases l <;> decide +kernel
    have hr : RowOk ns ms t true (nextB false "enter" "enter" "leave") (nextB l "enter" "lock" "unlock") r := hr
    rw [e1, e2] at hr
    exact .enter hr
theorem item_lu {ns ms : List Str} {t u l : Bool} : ItemFor ns ms t u l (if l = true then "unlock" else "lock") [] := by
  intro r hr
  cases l with
  | true =>
    have e1 : nextB u "unlock" "enter" "leave" = u := by cases u <;> decide +kernel
    have e2 : nextB true "unlock" "lock" "unlock" = false := by decide +kernel
    have hr : RowOk ns ms t true (nextB u "unlock" "enter" "leave") (nextB true "unlock" "lock" "unlock") r := hr
    rw [e1, e2] at hr
    exact .unlock hr
  | false =>
    have e1 : nextB u "lock" "enter" "leave" = u := by cases u <;> decide +kernel
    have e2 : nextB false "lock" "lock" "unlock" = true := by decide +kernel
    have hr : RowOk ns ms t true (nextB u "lock" "enter" "leave") (nextB false "lock" "lock" "unlock") r := hr
    rw [e1, e2] at hr
    exact .lock hr
theorem item_start {ns ms : List Str} {t u l : Bool} {n : Str} (h : n ∈ ns) : ItemFor ns ms t u l "start" [.str n] := by
  intro r hr
  have e1 : nextB u "start" "enter" "leave" = u := by cases u <;> decide +kernel
  have e2 : nextB l "start" "lock" "unlock" = l := by cases l <;> decide +kernel
  rw [e1, e2] at hr
  exact .start h hr
theorem item_ask {ns ms : List Str} {t u l : Bool} {m : Str} {o : List PyData} (h : m ∈ ms) (ho : RowOk ns ms t false u l o) (h4 : o.length ≤ 4) : ItemFor ns ms t u l "ask" [.str m, .tuple o] := by
  intro r hr
  have e1 : nextB u "ask" "enter" "leave" = u := by cases u <;> decide +kernel
  have e2 : nextB l "ask" "lock" "unlock" = l := by cases l <;> decide +kernel
  rw [e1, e2] at hr
  exact .ask h ho h4 hr
theorem in23 {w : Int} (h : inV (.int w) [.int 2, .int 3] = true) : w = 2 ∨ w = 3 := by
  have h : ((2 : Int) == w || ((3 : Int) == w || false)) = true := h
  simp only [Bool.or_false, Bool.or_eq_true, beq_iff_eq] at h
  omega
theorem not23 {w : Int} (h : ¬ inV (.int w) [.int 2, .int 3] = true) : w ≠ 2 ∧ w ≠ 3 := by
  have h : ¬ ((2 : Int) == w || ((3 : Int) == w || false)) = true := h
  simp only [Bool.or_false, Bool.or_eq_true, beq_iff_eq] at h
  omega
theorem two_at {x y : V} (u : Bool) : atI [x, y] (if u = true then 1 else 0) = some (if u = true then y else x) := by
  cases u <;> rfl
theorem eq_dec {w k : Int} (h : decide (V.int w = V.int k) = true) : w = k := V.int.inj (of_decide_eq_true h)
theorem ne_dec {w k : Int} (h : ¬ decide (V.int w = V.int k) = true) : w ≠ k := fun e => h (decide_eq_true (by rw [e]))
/-- a new list at x of what stands for the data ds -/
def LD (K : PySem.W.Frag) (R : Hp) (x : V) (ds : List PyData) : Prop := ∃ (a : Addr) (vs : List V), x = .ref a ∧ R a = some (.lst vs) ∧ DpAll K R vs ds
theorem LD.same {K : PySem.W.Frag} {R R' : Hp} {x : V} {ds : List PyData} (h : LD K R x ds) (s : Same R R') : LD K R' x ds := by
  obtain ⟨a, vs, h1, h2, h3⟩ := h
  exact ⟨a, vs, h1, s _ _ h2, dpAll_same s _ _ h3⟩
section
variable {K : PySem.W.Frag} {p : Addr} {R H : Hp}
/-- a list and another one, joined -/
theorem catL {a b : V} {ds es : List PyData} {Q : VK} (k : Rest p R H) (ha : LD K R a ds) (hb : LD K R b es) (hl : ds.length + es.length ≤ 1000) (hq : ∀ x R' H', Go p R H R' H' → LD K R' x (ds ++ es) → Q x H') : rCat a b H Q := by
  obtain ⟨a, vs, rfl, h2, h3⟩ := ha
  obtain ⟨b, ws, rfl, k2, k3⟩ := hb
  have l1 := dpAll_len h3
  have l2 := dpAll_len k3
  exact ⟨a, b, vs, ws, rfl, rfl, k.1 _ _ h2, k.1 _ _ k2, Nat.le_of_lt (small1000 (by omega)), fun x hx => hq _ _ _ (Go.new k hx) ⟨x, _, rfl, upd_same, dpAll_same (Go.new k hx).same _ _ (dpAll_app h3 k3)⟩⟩
/-- a list once or not at all -/
theorem repL {a : V} {ds : List PyData} {b : Bool} {Q : VK} (k : Rest p R H) (ha : LD K R a ds) (hl : ds.length ≤ 1000) (hq : ∀ x R' H', Go p R H R' H' → LD K R' x (if b then ds else []) → Q x H') : rRep a (.int (if b then 1 else 0)) H Q := by
  obtain ⟨a, vs, rfl, h2, h3⟩ := ha
  have l1 := dpAll_len h3
  cases b with
  | true =>
    refine ⟨a, _, vs, rfl, rfl, k.1 _ _ h2, by decide, by decide, ?_, fun x hx => ?_⟩
    · show vs.length * 1 ≤ sizeLine
      exact Nat.le_of_lt (small1000 (by omega))
    · have e : (List.replicate (if true = true then (1 : Int) else 0).toNat vs).flatten = vs := by
        show vs ++ [] = vs
        rw [List.append_nil]
      rw [e]
      exact hq _ _ _ (Go.new k hx) ⟨x, _, rfl, upd_same, dpAll_same (Go.new k hx).same _ _ h3⟩
  | false =>
    refine ⟨a, _, vs, rfl, rfl, k.1 _ _ h2, by decide, by decide, ?_, fun x hx => ?_⟩
    · show vs.length * 0 ≤ sizeLine
      omega
    · exact hq _ _ _ (Go.new k hx) ⟨x, _, rfl, upd_same, .nil⟩
/-- a list of one tuple, new -/
theorem new1 {u : Addr} {ds : PyData} {l : Addr} (k : Rest p R H) (hu : Dp K R (.ref u) ds) (hl : H l = none) : Go p R H (upd R l (.lst [.ref u])) (upd H l (.lst [.ref u])) ∧ LD K (upd R l (.lst [.ref u])) (.ref l) [ds] :=
  ⟨Go.new k hl, l, _, rfl, upd_same, .cons (dp_same (Go.new (o := .lst [.ref u]) k hl).same _ _ hu) .nil⟩
theorem dpAll_rev : ∀ {vs : List V} {ds : List PyData}, DpAll K R vs ds → DpAll K R vs.reverse ds.reverse
  | _, _, .nil => .nil
  | _, _, .cons h r => by
    rw [List.reverse_cons, List.reverse_cons]
    exact dpAll_app (dpAll_rev r) (.cons h .nil)
theorem revL {vs : List V} {ds : List PyData} {l : Addr} (k : Rest p R H) (hl : H l = none) (h : DpAll K R vs ds) : LD K (upd R l (.lst vs.reverse)) (.ref l) ds.reverse :=
  ⟨l, _, rfl, upd_same, dpAll_same (Go.new (o := .lst vs.reverse) k hl).same _ _ (dpAll_rev h)⟩
theorem four_of {e1 e2 l3 l4 : Addr} {v : V} (f1 : LD K R (.ref e1) []) (f2 : LD K R (.ref e2) []) (f3 : LD K R (.ref l3) [T1 "touch"]) (f4 : LD K R (.ref l4) [T1 "use"]) (hv : v ∈ [V.ref e1, .ref e2, .ref l3, .ref l4]) :
    ∃ ex, LD K R v ex ∧ (ex = [] ∨ ex = [T1 "touch"] ∨ ex = [T1 "use"]) := by
  simp only [List.mem_cons, List.not_mem_nil, or_false] at hv
  rcases hv with rfl | rfl | rfl | rfl
  · exact ⟨_, f1, .inl rfl⟩
  · exact ⟨_, f2, .inl rfl⟩
  · exact ⟨_, f3, .inr (.inl rfl)⟩
  · exact ⟨_, f4, .inr (.inr rfl)⟩
/-- a new object that is kept apart for a while -/
theorem dp_two {u : Bool} {x y : V} {a b : Str} (h1 : Dp K R x (T1 a)) (h2 : Dp K R y (T1 b)) : Dp K R (if u = true then y else x) (T1 (if u = true then b else a)) := by
  cases u with
  | true => exact h2
  | false => exact h1
theorem one_of {u1 u2 : Addr} {v : V} (d1 : Dp K R (.ref u1) (T1 "touch")) (d2 : Dp K R (.ref u2) (T1 "use")) (hv : v ∈ [V.ref u1, .ref u2]) : ∃ w : Str, Dp K R v (T1 w) ∧ w ∈ (["touch", "use"] : List Str) := by
  simp only [List.mem_cons, List.not_mem_nil, or_false] at hv
  rcases hv with rfl | rfl
  · exact ⟨_, d1, by decide⟩
  · exact ⟨_, d2, by decide⟩
theorem cut2_nil {ds : List PyData} (h : ds.length ≤ 2) : cutG ds (some 2) none = [] := by
  match ds, h with
  | [], _ => rfl
  | [_], _ => rfl
  | [_, _], _ => rfl
theorem dp_unit {y : V} (h : Dp K R y (.tuple [])) : ∃ ya : Addr, y = .ref ya ∧ SqT K R ya [] := by
  cases h with
  | tup h1 h2 =>
    cases h2
    exact ⟨_, rfl, h1⟩
theorem dp_head {y : V} {w : Str} {rest : List PyData} (h : Dp K R y (.tuple (.str w :: rest))) : ∃ (ya : Addr) (xs : List V), y = .ref ya ∧ SqT K R ya xs ∧ atI xs 0 = some (.str w) := by
  cases h with
  | tup h1 h2 =>
    cases h2 with
    | cons h3 _ =>
      cases h3
      exact ⟨_, _, rfl, h1, atI_nat (j := 0) rfl⟩
theorem dp_third {y : V} {a b : PyData} {o : List PyData} (h : Dp K R y (.tuple [a, b, .tuple o])) : ∃ (ya oa : Addr) (xs ys : List V), y = .ref ya ∧ SqT K R ya xs ∧ atI xs 2 = some (.ref oa) ∧ SqT K R oa ys ∧ ys.length = o.length := by
  cases h with
  | tup h1 h2 =>
    cases h2 with
    | cons h3 h4 =>
      cases h4 with
      | cons h5 h6 =>
        cases h6 with
        | cons h7 h8 =>
          cases h8
          cases h7 with
          | tup k1 k2 => exact ⟨_, _, _, _, rfl, h1, atI_nat (j := 2) rfl, k1, dpAll_len k2⟩
theorem dp_single {y : V} {d : PyData} (h : Dp K R y (.tuple [d])) : ∃ (ya : Addr) (v : V), y = .ref ya ∧ SqT K R ya [v] := by
  cases h with
  | tup h1 h2 =>
    cases h2 with
    | cons h3 h4 =>
      cases h4
      exact ⟨_, _, rfl, h1⟩
theorem go_hid {li : Addr} {o : HO} (k : Rest p R H) (h : H li = none) : Go p R H R (upd H li o) :=
  ⟨Same.refl _, k.put (k.1.free h) (k.ne h), fun b _ x e => same_upd h b x e, fun _ _ _ h => h⟩
theorem go_put {R0 H0 : Hp} {li : Addr} {o : HO} (g : Go p R0 H0 R H) (h0 : H0 li = none) (hR : R li = none) (hne : li ≠ p) : Go p R0 H0 R (upd H li o) :=
  ⟨g.same, g.rest.put hR hne, fun b hb x e => by
    rw [upd_ne (ne_of_none e h0)]
    exact g.keep b hb x e, g.fresh⟩
theorem go_put2 {R0 H0 : Hp} {li : Addr} (o : HO) (g : Go p R0 H0 R H) (h0 : H0 li = none) (hR : R li = none) (hne : li ≠ p) : Go p R0 H0 R (upd H li o) ∧ upd H li o li = some o := ⟨go_put g h0 hR hne, upd_same⟩
theorem go_new2 {l : Addr} (o : HO) (k : Rest p R H) (h : H l = none) : Go p R H (upd R l o) (upd H l o) := Go.new k h
/-- what was kept apart is let in -/
theorem go_show {R0 H0 : Hp} {li : Addr} {o : HO} (g : Go p R0 H0 R H) (h0 : H0 li = none) (hR : R li = none) (hne : li ≠ p) (hH : H li = some o) : Go p R0 H0 (upd R li o) H := by
  obtain ⟨s0, hRp, d, ns, n, hp, hd, hn⟩ := g.rest
  have e1 : Same R (upd R li o) := same_upd hR
  refine ⟨g.same.trans e1, ⟨fun b x e => ?_, by rw [upd_ne hne.symm]; exact hRp, d, ns, n, hp, e1 _ _ hd, hn⟩, g.keep, fun b x e hr => ?_⟩
  · by_cases hb : b = li
    · subst hb
      rw [upd_same] at e
      rw [hH, e]
    · rw [upd_ne hb] at e
      exact s0 b x e
  · rw [upd_ne (ne_of_none e h0)]
    exact g.fresh b x e hr
theorem closeLast {R0 H0 : Hp} {u l t : Bool} {x3 x6 : V} {bs : List PyData} {Q : VK} (q : ∀ x R' H' c, Go p R0 H0 R' H' → LD K R' x c → IsClosing u l t c → Q x H') (g : Go p R0 H0 R H) (f3 : LD K R x3 bs) (f6 : LD K R x6 [T1 "let"]) (hl : bs.length ≤ 10)
    (hq : ∀ k' : List PyData, (k' = [] ∨ (t = true ∧ k' = [T1 "let"])) → IsClosing u l t (bs ++ k')) (b : Bool) (hb : b = true → t = true) : rRep x6 (.int (if b = true then 1 else 0)) H (fun y H2 => rCat x3 y H2 Q) := by
  refine repL g.rest f6 (by decide) fun x7 Ri Hi gi f7 => catL (g.trans gi).rest (f3.same gi.same) f7 ?_ fun x8 Rj Hj gj f8 => q _ _ _ _ ((g.trans gi).trans gj) f8 (hq _ ?_)
  · have : (if b = true then [T1 "let"] else []).length ≤ 1 := by cases b <;> decide
    omega
  · cases b with
    | true => exact .inr ⟨hb rfl, rfl⟩
    | false => exact .inl rfl
end
end GG

namespace GG
open PySem PySem.Spec PyProof.Rows L2 TL
/-- the names that a law draws from are plain -/
def NamesOk (ns : List Str) : Prop := ∀ n ∈ ns, Sane n ∧ n.length ≤ 100
theorem good_name {ns : List Str} {n : Str} (h : NamesOk ns) (hn : n ∈ ns) (k : Nat) : Good k (.str n) := good_str (by have := (h n hn).2; omega) (h n hn).1 k
theorem good_word (w : Str) (h : okD (.str w) = true) (k : Nat) : Good k (.str w) := ⟨h, Nat.zero_le _⟩
theorem rowOk_good {ns ms : List Str} {t : Bool} (h1 : NamesOk ns) (h2 : NamesOk ms) : ∀ {a u l : Bool} {r : List PyData}, RowOk ns ms t a u l r → ∀ d ∈ r, Good (if a = true then 4 else 2) d := by
  have one : ∀ (a : Bool) (w : Str), okD (.str w) = true → Good (if a = true then 4 else 2) (T1 w) := fun a w hw => Good.mono (n := 2) (good_t (n := 1) (by show 1 ≤ 1000; decide) (fun d hd => by
    rw [List.mem_singleton] at hd
    rw [hd]
    exact good_word w hw 1)) (by cases a <;> decide)
  intro a u l r h
  induction h with
  | nil => intro d hd; cases hd
  | lets _ => intro d hd; rw [List.mem_singleton] at hd; rw [hd]; exact one _ _ (by decide +kernel)
  | plain hw _ ih =>
    intro d hd
    rcases List.mem_cons.mp hd with rfl | hd
    · simp only [List.mem_cons, List.not_mem_nil, or_false] at hw
      rcases hw with rfl | rfl <;> exact one _ _ (by decide +kernel)
    · exact ih d hd
  | @start a u l n r hn _ ih =>
    intro d hd
    rcases List.mem_cons.mp hd with rfl | hd
    · refine Good.mono (n := 2) (good_t (n := 1) (by show 2 ≤ 1000; decide) (fun e he => ?_)) (by cases a <;> decide)
      rw [List.mem_cons, List.mem_singleton] at he
      rcases he with rfl | rfl
      · exact good_word _ (by decide +kernel) 1
      · exact good_name h1 hn 1
    · exact ih d hd
  | enter _ ih => intro d hd; rcases List.mem_cons.mp hd with rfl | hd; exact one _ _ (by decide +kernel); exact ih d hd
  | leave _ ih => intro d hd; rcases List.mem_cons.mp hd with rfl | hd; exact one _ _ (by decide +kernel); exact ih d hd
  | lock _ ih => intro d hd; rcases List.mem_cons.mp hd with rfl | hd; exact one _ _ (by decide +kernel); exact ih d hd
  | unlock _ ih => intro d hd; rcases List.mem_cons.mp hd with rfl | hd; exact one _ _ (by decide +kernel); exact ih d hd
  | ask hm ho h4 _ iho ih =>
    intro d hd
    rcases List.mem_cons.mp hd with rfl | hd
    · refine good_t (n := 3) (by show 3 ≤ 1000; decide) (fun e he => ?_)
      simp only [List.mem_cons, List.not_mem_nil, or_false] at he
      rcases he with rfl | rfl | rfl
      · exact good_word _ (by decide +kernel) 3
      · exact good_name h2 hm 3
      · exact good_t (n := 2) (by omega) iho
    · exact ih d hd
theorem size1_pos (d : PyData) : 1 ≤ size1 d := by
  unfold size1
  split <;> omega
theorem sizeR_len : ∀ r : List PyData, r.length ≤ sizeR r
  | [] => Nat.le_refl _
  | d :: r => by
    have h1 := size1_pos d
    have h2 := sizeR_len r
    show r.length + 1 ≤ size1 d + sizeR r
    omega
/-- the openings of a hand -/
def opens : List (List Str) := [["look", "hold"], ["look", "try"], ["lock", "look", "hold", "unlock"], ["lock", "look", "try", "unlock"], ["lock", "look", "unlock", "hold"], ["lock", "look", "unlock", "try"]]
/-- a hand's row that keeps the rules -/
def HandOk (ns ms : List Str) (ds : List PyData) : Prop := ∃ op b, op ∈ opens ∧ ds = op.map T1 ++ b ∧ RowOk ns ms true true false false b ∧ sizeR b + op.length ≤ 14
/-- a work's row that keeps the rules -/
def WorkOk (ns ms : List Str) (ds : List PyData) : Prop := RowOk ns ms false true false false ds ∧ ds ≠ [] ∧ sizeR ds ≤ 9
section
variable {K : PySem.W.Frag} {p : Addr} {R H : Hp}
theorem dpAll_of_get : ∀ {vs : List V} {ds : List PyData}, vs.length = ds.length → (∀ (i : Nat) (y : V) (d : PyData), vs[i]? = some y → ds[i]? = some d → Dp K R y d) → DpAll K R vs ds
  | [], [], _, _ => .nil
  | v :: vs, d :: ds, hl, h => .cons (h 0 v d rfl rfl) (dpAll_of_get (by simpa using hl) fun i y e h1 h2 => h (i + 1) y e h1 h2)
/-- a comprehension that draws, place by place -/
theorem lc_goI {J : It} {n : Nat} {G : Hp → Prop} {Y : Nat → Hp → V → Hp → Prop} (wk : Walk J n G Y) {D : Addr} (hn : n ≤ 1000) (k : Rest p R H) (hD : H D = none) (hG : ∀ R1 H1, Go p R H R1 H1 → G H1)
    (PP : Nat → Hp → V → Prop) (Pm : ∀ i R1 R2 y, Same R1 R2 → PP i R1 y → PP i R2 y) {g : TG} {tt : TT} {te : TE} {vs : List Nat} {σ : L2.St} {Qd : Hp → Prop}
    (hs : ∀ i x R1 H1 H1', i < n → Go p R H R1 H1 → Y i H1 x H1' → ∀ (C : V → Hp → Prop) (E : Hp → Prop), (∀ R2 H2 y, Go p R1 H1 R2 H2 → PP i R2 y → C y H2) →
      g x (wipe σ vs) H1' fun σ2 H2 => wipe σ2 vs = wipe σ vs ∧ tt σ2 H2 fun b H3 => if b = true then te σ2 H3 C else E H3)
    (hd : ∀ R1 H1 ys, Go p R H R1 H1 → R1 D = some (.lst ys) → ys.length = n → (∀ (i : Nat) (y : V), ys[i]? = some y → PP i R1 y) → Qd H1) :
    ∃ W : Nat → Nat → Hp → Prop, (∃ m, W 0 m (upd H D (.lst []))) ∧ ∀ i m H, W i m H →
      (J.stop i H ∧ Qd H) ∨ (J.go i H ∧ ∃ Nx : Hp → Prop, (∀ H', Nx H' → ∃ m', m' < m ∧ W (i + 1) m' H') ∧ ∀ x H', J.yld i H x H' → g x (wipe σ vs) H' fun σ2 H2 => wipe σ2 vs = wipe σ vs ∧ tt σ2 H2 fun b H3 =>
        if b = true then te σ2 H3 fun y H4 => ∃ acc, H4 D = some (.lst acc) ∧ acc.length < sizeLine ∧ Nx (upd H4 D (.lst (acc ++ [y]))) else Nx H3) := by
  have hne := k.ne hD
  have hRD : R D = none := k.1.free hD
  refine lc_it wk (fun i H' => ∃ R1, Go p R H R1 H' ∧ R1 D = none ∧ ∃ ys : List V, H' D = some (.lst ys) ∧ ys.length = i ∧ ∀ (j : Nat) (y : V), ys[j]? = some y → PP j R1 y) ?_ ?_ ?_ ?_
  · exact ⟨R, go_hid k hD, hRD, [], upd_same, rfl, fun j y h => by simp at h⟩
  · rintro i H' _ ⟨R1, g1, _⟩
    exact hG R1 H' g1
  · rintro i x H1 H1' hi ⟨R1, g1, hR1, ys, hy, hl, hP⟩ hY
    refine hs i x R1 H1 H1' hi g1 hY _ _ fun R2 H2 y g2 hp => ⟨ys, g2.keep D hne _ hy, small1000 (by omega), R2, go_put (g1.trans g2) hD (g2.fresh D _ hy hR1) hne, g2.fresh D _ hy hR1, ys ++ [y], upd_same, ?_, ?_⟩
    · rw [List.length_append, List.length_singleton, hl]
    · intro j u hu
      by_cases hj : j < ys.length
      · rw [List.getElem?_append_left hj] at hu
        exact Pm j R1 R2 u g2.same (hP j u hu)
      · rw [List.getElem?_append_right (by omega)] at hu
        have hj2 := (List.getElem?_eq_some_iff.mp hu).1
        rw [List.length_singleton] at hj2
        have ej : j - ys.length = 0 := by omega
        rw [ej] at hu
        have eu : y = u := Option.some.inj hu
        have ei : j = i := by omega
        rw [← eu, ei]
        exact hp
  · rintro H1 ⟨R1, g1, hR1, ys, hy, hl, hP⟩
    exact hd _ H1 ys (go_show g1 hD hR1 hne hy) upd_same hl fun j y h => Pm j _ _ y (same_upd hR1) (hP j y h)
/-- a list of texts, new -/
theorem six_of {l1 l2 l3 l4 l5 l6 : Addr} {x : V} (h1 : R l1 = some (.lst [.str "look", .str "hold"])) (h2 : R l2 = some (.lst [.str "look", .str "try"])) (h3 : R l3 = some (.lst [.str "lock", .str "look", .str "hold", .str "unlock"]))
    (h4 : R l4 = some (.lst [.str "lock", .str "look", .str "try", .str "unlock"])) (h5 : R l5 = some (.lst [.str "lock", .str "look", .str "unlock", .str "hold"])) (h6 : R l6 = some (.lst [.str "lock", .str "look", .str "unlock", .str "try"]))
    (hx : x ∈ [V.ref l1, .ref l2, .ref l3, .ref l4] ++ [V.ref l5, .ref l6]) : ∃ (a : Addr) (op : List Str), x = .ref a ∧ R a = some (.lst (op.map V.str)) ∧ op ∈ opens := by
  simp only [List.cons_append, List.nil_append, List.mem_cons, List.not_mem_nil, or_false] at hx
  rcases hx with rfl | rfl | rfl | rfl | rfl | rfl
  · exact ⟨_, ["look", "hold"], rfl, h1, by decide⟩
  · exact ⟨_, ["look", "try"], rfl, h2, by decide⟩
  · exact ⟨_, ["lock", "look", "hold", "unlock"], rfl, h3, by decide⟩
  · exact ⟨_, ["lock", "look", "try", "unlock"], rfl, h4, by decide⟩
  · exact ⟨_, ["lock", "look", "unlock", "hold"], rfl, h5, by decide⟩
  · exact ⟨_, ["lock", "look", "unlock", "try"], rfl, h6, by decide⟩
theorem two_of {l3 l4 : Addr} {v : V} (f3 : LD K R (.ref l3) [T1 "touch"]) (f4 : LD K R (.ref l4) [T1 "use"]) (hv : v ∈ [V.ref l3, .ref l4]) : ∃ w : Str, LD K R v [T1 w] ∧ w ∈ (["touch", "use"] : List Str) := by
  simp only [List.mem_cons, List.not_mem_nil, or_false] at hv
  rcases hv with rfl | rfl
  · exact ⟨_, f3, by decide⟩
  · exact ⟨_, f4, by decide⟩
theorem opens_len {op : List Str} (h : op ∈ opens) : 2 ≤ op.length ∧ op.length ≤ 4 := by
  unfold opens at h
  simp only [List.mem_cons, List.not_mem_nil, or_false] at h
  rcases h with rfl | rfl | rfl | rfl | rfl | rfl <;> decide
end
end GG

/-! The puller's steps that the laws draw, as data. -/
namespace GG
open PySem PySem.Spec PyProof.Rows L2 TL
abbrev T2 (w n : Str) : PyData := .tuple [.str w, .str n]
/-- a step that the laws draw, of those that are no lock -/
def StepW (ns ms : List Str) (d : PyData) : Prop := (∃ w ∈ (["out", "wait", "empty", "down", "let"] : List Str), d = T1 w) ∨ (∃ m ∈ ms, d = T2 "mark" m) ∨ ∃ n ∈ ns, ∃ w ∈ (["bar", "forget", "idle"] : List Str), d = T2 w n
/-- a step that may stand there more than once -/
def RepW (d : PyData) : Prop := (∃ w ∈ (["wait", "empty"] : List Str), d = T1 w) ∨ ∃ n : Str, ∃ w ∈ (["bar", "forget", "idle"] : List Str), d = T2 w n
def StepsOk (ns ms : List Str) (ds : List PyData) : Prop := (∀ d ∈ ds, StepW ns ms d) ∧ ds.Pairwise fun a b => a = b → RepW a
/-- steps with lock and unlock put in -/
def LocksOf (ds es : List PyData) : Prop := es = ds ∨ ∃ a b c e k : List PyData, ds = (a ++ b) ++ c ∧ ((e = [] ∧ k = []) ∨ (e = [T1 "unlock"] ∧ (k = [] ∨ k = [T1 "lock"] ∨ k = [T1 "lock", T1 "unlock"]))) ∧ es = ((((a ++ [T1 "lock"]) ++ b) ++ e) ++ c) ++ k ∧ es.length ≤ 9
/-- a puller's row that the laws draw -/
def PullOk (ns ms : List Str) (es : List PyData) : Prop := ∃ ds, StepsOk ns ms ds ∧ ds.length ≤ 7 ∧ LocksOf ds es
theorem sIx_int (n d : Nat) {r : Int} (h0 : 0 ≤ r) (h1 : r ≤ n) : HT.sIx n d (some r) = r.toNat := by
  show (if r < 0 then (r + (n : Int)).toNat else min r.toNat n) = r.toNat
  rw [if_neg (by omega), Nat.min_eq_left (by omega)]
theorem cutG_lo {α : Type} (ds : List α) {r : Int} (h0 : 0 ≤ r) (h1 : r ≤ ds.length) : cutG ds none (some r) = ds.take r.toNat := by
  unfold cutG
  rw [sIx_int _ _ h0 h1, HT.sIx_none, List.drop_zero, Nat.sub_zero]
theorem cutG_hi {α : Type} (ds : List α) {r : Int} (h0 : 0 ≤ r) (h1 : r ≤ ds.length) : cutG ds (some r) none = ds.drop r.toNat := by
  unfold cutG
  rw [sIx_int _ _ h0 h1, HT.sIx_none, List.take_of_length_le (by rw [List.length_drop]; exact Nat.le_refl _)]
theorem cutG_mid {α : Type} (ds : List α) {r t : Int} (h0 : 0 ≤ r) (h1 : r ≤ t) (h2 : t ≤ ds.length) : cutG ds (some r) (some t) = (ds.drop r.toNat).take (t.toNat - r.toNat) := by
  unfold cutG
  rw [sIx_int _ _ h0 (by omega), sIx_int _ _ (by omega) h2]
theorem three_cuts {α : Type} (ds : List α) {r t : Int} (h0 : 0 ≤ r) (h1 : r ≤ t) (h2 : t ≤ ds.length) : ds = (cutG ds none (some r) ++ cutG ds (some r) (some t)) ++ cutG ds (some t) none := by
  rw [cutG_lo ds h0 (by omega), cutG_mid ds h0 h1 h2, cutG_hi ds (by omega) h2]
  have e : ds.take r.toNat ++ (ds.drop r.toNat).take (t.toNat - r.toNat) = ds.take t.toNat := by
    rw [← List.take_add]
    congr 1
    omega
  rw [e, List.take_append_drop]
section
variable {K : PySem.W.Frag} {p : Addr} {R H : Hp}
/-- a cut of a list -/
theorem sliceL {x : V} {ds : List PyData} {lo hi : Option Int} {Q : VK} (k : Rest p R H) (hx : LD K R x ds) (hq : ∀ y R' H', Go p R H R' H' → LD K R' y (cutG ds lo hi) → Q y H') : rSlL K x lo hi H Q := by
  obtain ⟨a, vs, rfl, h1, h2⟩ := hx
  exact ⟨a, vs, rfl, .inl (.inl (k.1 _ _ h1)), fun y hy => hq _ _ _ (Go.new k hy) ⟨y, _, rfl, upd_same, dpAll_same (Go.new k hy).same _ _ (dpAll_cut h2 lo hi)⟩⟩
theorem sliceLo {x : V} {ds : List PyData} {lo : Option Int} {σ : L2.St} {Q : VK} (k : Rest p R H) (hx : LD K R x ds) (hq : ∀ y R' H', Go p R H R' H' → LD K R' y (cutG ds lo none) → Q y H') : tNoPart σ H (fun u H3 => rSlL K x lo u H3 Q) := sliceL (hi := none) k hx hq
end
end GG

namespace GG
open PySem PySem.Spec PyProof.Rows L2 TL
theorem eqv_strs : ∀ xs ys : List Str, PyData.eqvAll (xs.map PyData.str) (ys.map PyData.str) = true ↔ xs = ys
  | [], [] => ⟨fun _ => rfl, fun _ => rfl⟩
  | [], y :: ys => iff_of_false (by intro h; cases h) (by intro h; cases h)
  | x :: xs, [] => iff_of_false (by intro h; cases h) (by intro h; cases h)
  | x :: xs, y :: ys => by
    show ((x == y) && PyData.eqvAll (xs.map PyData.str) (ys.map PyData.str)) = true ↔ _
    rw [Bool.and_eq_true_iff, eqv_strs xs ys, List.cons.injEq, beq_iff_eq]
theorem StepW.words {ns ms : List Str} {d : PyData} (h : StepW ns ms d) : ∃ (w : Str) (r : List Str), d = .tuple ((w :: r).map PyData.str) := by
  rcases h with ⟨w, _, rfl⟩ | ⟨m, _, rfl⟩ | ⟨n, _, w, _, rfl⟩
  · exact ⟨w, [], rfl⟩
  · exact ⟨"mark", [m], rfl⟩
  · exact ⟨w, [n], rfl⟩
theorem eqv_step {ns ms : List Str} {d e : PyData} (h : StepW ns ms d) (h' : StepW ns ms e) : PyData.eqv d e = true ↔ d = e := by
  obtain ⟨w, r, rfl⟩ := h.words
  obtain ⟨v, q, rfl⟩ := h'.words
  refine (eqv_strs (w :: r) (v :: q)).trans ⟨fun e => by rw [e], fun e => ?_⟩
  injection e with e
  exact List.map_inj_right (fun a b h => by injection h) |>.mp e
theorem step_good {ns ms : List Str} {d : PyData} (h1 : NamesOk ns) (h2 : NamesOk ms) (h : StepW ns ms d) : Good 1 d := by
  rcases h with ⟨w, hw, rfl⟩ | ⟨m, hm, rfl⟩ | ⟨n, hn, w, hw, rfl⟩
  · refine good_t (n := 0) (by show 1 ≤ 1000; decide) fun d hd => ?_
    rw [List.mem_singleton] at hd
    subst hd
    simp only [List.mem_cons, List.not_mem_nil, or_false] at hw
    rcases hw with rfl | rfl | rfl | rfl | rfl <;> exact good_word _ (by decide +kernel) 0
  · refine good_t (n := 0) (by show 2 ≤ 1000; decide) fun d hd => ?_
    rw [List.mem_cons, List.mem_singleton] at hd
    rcases hd with rfl | rfl
    · exact good_word _ (by decide +kernel) 0
    · exact good_name h2 hm 0
  · refine good_t (n := 0) (by show 2 ≤ 1000; decide) fun d hd => ?_
    rw [List.mem_cons, List.mem_singleton] at hd
    rcases hd with rfl | rfl
    · simp only [List.mem_cons, List.not_mem_nil, or_false] at hw
      rcases hw with rfl | rfl | rfl <;> exact good_word _ (by decide +kernel) 0
    · exact good_name h1 hn 0
theorem rep_of {ns ms : List Str} {w : Str} {r : List PyData} (h : StepW ns ms (.tuple (.str w :: r))) (hw : inV (.str w) [.str "wait", .str "empty", .str "bar", .str "forget", .str "idle"] = true) : RepW (.tuple (.str w :: r)) := by
  rcases h with ⟨v, hv, e⟩ | ⟨m, hm, e⟩ | ⟨n, hn, v, hv, e⟩
  · injection e with e
    injection e with e1 e2
    injection e1 with e1
    subst e1 e2
    simp only [List.mem_cons, List.not_mem_nil, or_false] at hv
    rcases hv with rfl | rfl | rfl | rfl | rfl
    · exact absurd hw (by decide +kernel)
    · exact .inl ⟨_, by decide, rfl⟩
    · exact .inl ⟨_, by decide, rfl⟩
    · exact absurd hw (by decide +kernel)
    · exact absurd hw (by decide +kernel)
  · injection e with e
    injection e with e1 e2
    injection e1 with e1
    subst e1
    exact absurd hw (by decide +kernel)
  · injection e with e
    injection e with e1 e2
    injection e1 with e1
    subst e1 e2
    exact .inr ⟨n, w, hv, rfl⟩
theorem rel_symm {a b : PyData} (h : a = b → RepW a) : b = a → RepW b := fun e => by
  subst e
  exact h rfl
theorem StepsOk.sub {ns ms : List Str} {ds es : List PyData} (h : StepsOk ns ms ds) (s : es.Sublist ds) : StepsOk ns ms es := ⟨fun d hd => h.1 d (s.subset hd), h.2.sublist s⟩
theorem StepsOk.ins {ns ms : List Str} {A B k ds : List PyData} (h : StepsOk ns ms ds) (e : A ++ B = ds) (hk : ∀ d ∈ k, StepW ns ms d) (hp : k.Pairwise fun a b => a = b → RepW a) (hx : ∀ a ∈ k, ∀ b ∈ ds, a = b → RepW a) : StepsOk ns ms ((A ++ k) ++ B) := by
  have pm : List.Perm ((A ++ k) ++ B) (k ++ ds) := by
    rw [← e, List.append_assoc]
    exact List.perm_append_comm_assoc _ _ _
  refine ⟨fun d hd => ?_, (pm.pairwise_iff (fun h => rel_symm h)).mpr (List.pairwise_append.mpr ⟨hp, h.2, hx⟩)⟩
  have hd := pm.subset hd
  rcases List.mem_append.mp hd with hd | hd
  · exact hk d hd
  · exact h.1 d hd
theorem del_sub (ds : List PyData) {r : Int} (h0 : 0 ≤ r) (h1 : r < ds.length) : (cutG ds none (some r) ++ cutG ds (some (r + 1)) none).Sublist ds ∧ (cutG ds none (some r) ++ cutG ds (some (r + 1)) none).length + 1 = ds.length := by
  rw [cutG_lo ds h0 (by omega), cutG_hi ds (by omega) (by omega)]
  constructor
  · refine (List.Sublist.append (List.Sublist.refl _) (List.drop_sublist_drop_left ds (i := r.toNat) (by omega))).trans ?_
    rw [List.take_append_drop]
    exact List.Sublist.refl _
  · rw [List.length_append, List.length_take, List.length_drop]
    omega
theorem cut_two {α : Type} (ds : List α) {r : Int} (h0 : 0 ≤ r) : cutG ds none (some r) ++ cutG ds (some r) none = ds := by
  have e : ∀ d, HT.sIx ds.length d (some r) = min r.toNat ds.length := fun d => by
    show (if r < 0 then (r + (ds.length : Int)).toNat else min r.toNat ds.length) = _
    rw [if_neg (by omega)]
  unfold cutG
  rw [e, e, HT.sIx_none, HT.sIx_none, List.drop_zero, Nat.sub_zero, List.take_of_length_le (l := ds.drop _) (by rw [List.length_drop]; exact Nat.le_refl _), List.take_append_drop]
/-- the steps that the law begins with -/
def ini (ns ms : List Str) (b : Bool) : List PyData := (((((([T1 "out"] ++ ms.map (T2 "mark")) ++ ns.map (T2 "bar")) ++ ns.map (T2 "forget")) ++ [T1 "wait"]) ++ ns.map (T2 "idle")) ++ (if b = true then [T1 "empty"] else [])) ++ [T1 "down", T1 "let"]
theorem ini_len (ns ms : List Str) (b : Bool) : 4 ≤ (ini ns ms b).length ∧ (ini ns ms b).length ≤ ms.length + 3 * ns.length + 5 := by
  unfold ini
  cases b <;> simp only [List.length_append, List.length_map, List.length_cons, List.length_nil, if_true, Bool.false_eq_true, if_false] <;> omega
theorem SOk.app {ns ms : List Str} {A B : List PyData} (h : StepsOk ns ms A) (k : StepsOk ns ms B) (hx : ∀ a ∈ A, ∀ b ∈ B, a = b → RepW a) : StepsOk ns ms (A ++ B) :=
  ⟨fun d hd => (List.mem_append.mp hd).elim (h.1 d) (k.1 d), List.pairwise_append.mpr ⟨h.2, k.2, hx⟩⟩
theorem SOk.rep {ns ms : List Str} {A B : List PyData} (h : StepsOk ns ms A) (k : ∀ d ∈ B, StepW ns ms d ∧ RepW d) : StepsOk ns ms (A ++ B) :=
  SOk.app h ⟨fun d hd => (k d hd).1, List.pairwise_of_forall_mem_list fun a ha b _ _ => (k a ha).2⟩ fun a _ b hb e => by rw [e]; exact (k b hb).2
theorem rep_names {ns ms : List Str} {w : Str} (hw : w ∈ (["bar", "forget", "idle"] : List Str)) : ∀ d ∈ ns.map (T2 w), StepW ns ms d ∧ RepW d := fun d hd => by
  obtain ⟨n, hn, rfl⟩ := List.mem_map.mp hd
  exact ⟨.inr (.inr ⟨n, hn, w, hw, rfl⟩), .inr ⟨n, w, hw, rfl⟩⟩
theorem ini_ok {ns ms : List Str} {b : Bool} (hm : ms.Nodup) : StepsOk ns ms (ini ns ms b) := by
  have h1 : StepsOk ns ms ([T1 "out"] ++ ms.map (T2 "mark")) := by
    refine SOk.app ⟨fun d hd => ?_, List.pairwise_singleton _ _⟩ ⟨fun d hd => ?_, List.pairwise_map.mpr (hm.imp fun h e => absurd (by injection e with e; injection e with _ e; injection e with e; injection e) h)⟩ fun a ha b hb e => ?_
    · rw [List.mem_singleton.mp hd]
      exact .inl ⟨"out", by decide, rfl⟩
    · obtain ⟨m, hm, rfl⟩ := List.mem_map.mp hd
      exact .inr (.inl ⟨m, hm, rfl⟩)
    · obtain ⟨m, hm, rfl⟩ := List.mem_map.mp hb
      rw [List.mem_singleton.mp ha] at e
      injection e with e
      injection e with _ e
      cases e
  have one : ∀ w ∈ (["wait", "empty"] : List Str), StepW ns ms (T1 w) ∧ RepW (T1 w) := fun w hw => by
    refine ⟨.inl ⟨w, ?_, rfl⟩, .inl ⟨w, hw, rfl⟩⟩
    simp only [List.mem_cons, List.not_mem_nil, or_false] at hw
    rcases hw with rfl | rfl <;> decide
  have h6 : StepsOk ns ms (((((([T1 "out"] ++ ms.map (T2 "mark")) ++ ns.map (T2 "bar")) ++ ns.map (T2 "forget")) ++ [T1 "wait"]) ++ ns.map (T2 "idle")) ++ (if b = true then [T1 "empty"] else [])) := by
    refine SOk.rep (SOk.rep (SOk.rep (SOk.rep (SOk.rep h1 (rep_names (by decide))) (rep_names (by decide))) fun d hd => ?_) (rep_names (by decide))) fun d hd => ?_
    · rw [List.mem_singleton.mp hd]
      exact one _ (by decide)
    · cases b with
      | true =>
        rw [if_pos rfl] at hd
        rw [List.mem_singleton.mp hd]
        exact one _ (by decide)
      | false => cases hd
  refine SOk.app h6 ⟨fun d hd => ?_, ?_⟩ fun a ha b hb e => ?_
  · rw [List.mem_cons, List.mem_singleton] at hd
    rcases hd with rfl | rfl
    · exact .inl ⟨"down", by decide, rfl⟩
    · exact .inl ⟨"let", by decide, rfl⟩
  · refine List.pairwise_pair.mpr fun e => ?_
    injection e with e
    injection e with e _
    injection e with e
    exact absurd e (by decide)
  · have hne : ∀ w ∈ (["down", "let"] : List Str), ∀ d ∈ ((((([T1 "out"] ++ ms.map (T2 "mark")) ++ ns.map (T2 "bar")) ++ ns.map (T2 "forget")) ++ [T1 "wait"]) ++ ns.map (T2 "idle")), d ≠ T1 w := by
      intro w hw d hd e
      subst e
      simp only [List.mem_append, List.mem_singleton, List.mem_map] at hd
      rcases hd with ((((h | ⟨_, _, h⟩) | ⟨_, _, h⟩) | ⟨_, _, h⟩) | h) | ⟨_, _, h⟩ <;> injection h with h <;> injection h with h h'
      · injection h with h
        subst h
        revert hw
        decide
      · cases h'
      · cases h'
      · cases h'
      · injection h with h
        subst h
        revert hw
        decide
      · cases h'
    subst e
    rcases List.mem_append.mp ha with ha | ha
    · rw [List.mem_cons, List.mem_singleton] at hb
      rcases hb with rfl | rfl
      · exact absurd rfl (hne "down" (by decide) _ ha)
      · exact absurd rfl (hne "let" (by decide) _ ha)
    · revert ha
      split
      · intro ha
        rw [List.mem_singleton.mp ha]
        exact .inl ⟨"empty", by decide, rfl⟩
      · intro ha
        cases ha
section
variable {K : PySem.W.Frag} {p : Addr} {R H : Hp}
theorem dpAll_at {vs : List V} {ds : List PyData} {i : Nat} {v : V} {d : PyData} (h : DpAll K R vs ds) (h1 : vs[i]? = some v) (h2 : ds[i]? = some d) : Dp K R v d := by
  obtain ⟨e, he, hd⟩ := dpAll_get h h1
  rw [h2] at he
  rw [Option.some.inj he]
  exact hd
theorem dpAll_mem {vs : List V} {ds : List PyData} {v : V} (h : DpAll K R vs ds) (h1 : v ∈ vs) : ∃ d, d ∈ ds ∧ Dp K R v d := by
  obtain ⟨i, hi⟩ := List.getElem?_of_mem h1
  obtain ⟨e, he, hd⟩ := dpAll_get h hi
  exact ⟨e, List.mem_of_getElem? he, hd⟩
theorem new1v {u : V} {ds : PyData} {l : Addr} (k : Rest p R H) (hu : Dp K R u ds) (hl : H l = none) : Go p R H (upd R l (.lst [u])) (upd H l (.lst [u])) ∧ LD K (upd R l (.lst [u])) (.ref l) [ds] :=
  ⟨Go.new k hl, l, _, rfl, upd_same, .cons (dp_same (Go.new (o := .lst [u]) k hl).same _ _ hu) .nil⟩
theorem cut_len1 {α : Type} (ds : List α) (b : Bool) : (cutG ds none (some (if b = true then 1 else 0))).length ≤ 1 := by
  have e : HT.sIx ds.length ds.length (some (if b = true then 1 else 0)) ≤ 1 := by
    cases b
    · show min 0 ds.length ≤ 1
      omega
    · show min 1 ds.length ≤ 1
      omega
  unfold cutG
  rw [List.length_take]
  omega
/-- the word that a step begins with -/
def headW : PyData → Str
  | .tuple (.str w :: _) => w
  | _ => ""
/-- a comprehension that keeps some of a list's data -/
theorem lc_goF {J : It} {n : Nat} {G : Hp → Prop} {Y : Nat → Hp → V → Hp → Prop} (wk : Walk J n G Y) {D : Addr} (hn : n ≤ 1000) (k : Rest p R H) (hD : H D = none) (hG : ∀ R1 H1, Go p R H R1 H1 → G H1)
    (ds : List PyData) (hdn : ds.length = n) (f : PyData → Bool) {g : TG} {tt : TT} {te : TE} {vs : List Nat} {σ : L2.St} {Qd : Hp → Prop}
    (hs : ∀ i x R1 H1 H1' d, ds[i]? = some d → Go p R H R1 H1 → Y i H1 x H1' → ∀ (C : V → Hp → Prop) (E : Hp → Prop), (∀ R2 H2 y, f d = true → Go p R1 H1 R2 H2 → Dp K R2 y d → C y H2) → (∀ R2 H2, f d = false → Go p R1 H1 R2 H2 → E H2) →
      g x (wipe σ vs) H1' fun σ2 H2 => wipe σ2 vs = wipe σ vs ∧ tt σ2 H2 fun b H3 => if b = true then te σ2 H3 C else E H3)
    (hd : ∀ R1 H1, Go p R H R1 H1 → LD K R1 (.ref D) (ds.filter f) → Qd H1) :
    ∃ W : Nat → Nat → Hp → Prop, (∃ m, W 0 m (upd H D (.lst []))) ∧ ∀ i m H, W i m H →
      (J.stop i H ∧ Qd H) ∨ (J.go i H ∧ ∃ Nx : Hp → Prop, (∀ H', Nx H' → ∃ m', m' < m ∧ W (i + 1) m' H') ∧ ∀ x H', J.yld i H x H' → g x (wipe σ vs) H' fun σ2 H2 => wipe σ2 vs = wipe σ vs ∧ tt σ2 H2 fun b H3 =>
        if b = true then te σ2 H3 fun y H4 => ∃ acc, H4 D = some (.lst acc) ∧ acc.length < sizeLine ∧ Nx (upd H4 D (.lst (acc ++ [y]))) else Nx H3) := by
  have hne := k.ne hD
  have hRD : R D = none := k.1.free hD
  refine lc_it wk (fun i H' => ∃ R1, Go p R H R1 H' ∧ R1 D = none ∧ ∃ ys : List V, H' D = some (.lst ys) ∧ DpAll K R1 ys ((ds.take i).filter f)) ?_ ?_ ?_ ?_
  · exact ⟨R, go_hid k hD, hRD, [], upd_same, .nil⟩
  · rintro i H' _ ⟨R1, g1, _⟩
    exact hG R1 H' g1
  · rintro i x H1 H1' hi ⟨R1, g1, hR1, ys, hy, hP⟩ hY
    have hlt : i < ds.length := by omega
    have hdi : ds[i]? = some ds[i] := List.getElem?_eq_getElem hlt
    have hl : ys.length ≤ 1000 := by
      have e1 := dpAll_len hP
      have e2 := List.length_filter_le f (ds.take i)
      rw [List.length_take] at e2
      omega
    refine hs i x R1 H1 H1' _ hdi g1 hY _ _ (fun R2 H2 y hf g2 hp => ⟨ys, g2.keep D hne _ hy, small1000 (by omega), R2, go_put (g1.trans g2) hD (g2.fresh D _ hy hR1) hne, g2.fresh D _ hy hR1, ys ++ [y], upd_same, ?_⟩) (fun R2 H2 hf g2 => ⟨R2, g1.trans g2, g2.fresh D _ hy hR1, ys, g2.keep D hne _ hy, ?_⟩)
    · rw [filt_snoc hdi, if_pos hf]
      exact dpAll_app (dpAll_same g2.same _ _ hP) (.cons hp .nil)
    · rw [filt_snoc hdi, hf, if_neg Bool.false_ne_true, List.append_nil]
      exact dpAll_same g2.same _ _ hP
  · rintro H1 ⟨R1, g1, hR1, ys, hy, hP⟩
    refine hd _ H1 (go_show g1 hD hR1 hne hy) ⟨D, ys, rfl, upd_same, ?_⟩
    rw [List.take_of_length_le (by omega)] at hP
    exact dpAll_same (same_upd hR1) _ _ hP
end
end GG

/-! How a row lies: its items one after another with those of ways out, where each place leads, what one that stands there has; that rows that keep the rules are let by. No program's own. -/
namespace LY
open PySem PySem.Spec PyProof.Rows L2 TL GG
/-- the way out of an ask -/
def wayOf : PyData → Option (List PyData)
  | .tuple [_, _, .tuple o] => some o
  | _ => none
def way (d : PyData) : List PyData := (wayOf d).getD []
/-- all items, with those of ways out -/
def spread (ds : List PyData) : List PyData := ds.flatMap fun d => d :: way d
/-- where the n items of a way out lead, the first at o -/
def chain (e : Nat) : Nat → Nat → List (List Nat)
  | _, 0 => []
  | _, 1 => [[e]]
  | o, n + 2 => [o + 1] :: chain e (o + 1) (n + 1)
/-- where the places lead, the first at o, the end e -/
def leads (e : Nat) : Nat → List PyData → List (List Nat)
  | _, [] => []
  | o, d :: r => match wayOf d with
    | none => [o + 1] :: leads e (o + 1) r
    | some w => [o + 1 + w.length, if w.length = 0 then e else o + 1] :: (chain e (o + 1) w.length ++ leads e (o + 1 + w.length) r)
/-- holds, under way, has the lock -/
abbrev St3 := Bool × Bool × Bool
/-- behind an item of such a word -/
def stB (s : St3) (w : Str) : St3 :=
  if w = "hold" then (true, s.2) else if w = "try" then (true, s.2) else if w = "let" then (false, s.2) else if w = "enter" then (s.1, true, s.2.2) else if w = "leave" then (s.1, false, s.2.2) else if w = "lock" then (s.1, s.2.1, true)
  else if w = "unlock" then (s.1, s.2.1, false) else s
def may (u l : Bool) (w : Str) : Bool := if w = "enter" then !u else if w = "leave" then u else if w = "lock" then !l else if w = "unlock" then l else true
def setAll (S : List St3) (bs : List Nat) (v : St3) : List St3 := bs.foldl (fun S b => S.set b v) S
/-- what stands at each place, place by place -/
def runs (S : List St3) : Nat → List (PyData × List Nat) → List St3
  | _, [] => S
  | i, (d, bs) :: r => runs (setAll S bs (stB (S.getD i (false, false, false)) (headW d))) (i + 1) r
/-- a place that is let by -/
def okAt (e : Nat) (d : PyData) (bs : List Nat) (s : St3) : Prop := may s.2.1 s.2.2 (headW d) = true ∧ (headW d = "let" → bs = [e]) ∧ (e ∈ bs → (stB s (headW d)).2 = (false, false))
/-- each place is let by when it is come to, and leads on only -/
def Good (e : Nat) : Nat → List (PyData × List Nat) → List St3 → Prop
  | _, [], _ => True
  | i, (d, bs) :: r, S => okAt e d bs (S.getD i (false, false, false)) ∧ (∀ b ∈ bs, i < b) ∧ Good e (i + 1) r (setAll S bs (stB (S.getD i (false, false, false)) (headW d)))
/-- rows that keep the rules, by their words; a: asks may be there -/
inductive RowG : Bool → Bool → Bool → List PyData → Prop
  | nil {a} : RowG a false false []
  | lets {a} : RowG a false false [T1 "let"]
  | item {a u l d r} : wayOf d = none → headW d ≠ "let" → may u l (headW d) = true → RowG a (stB (false, u, l) (headW d)).2.1 (stB (false, u, l) (headW d)).2.2 r → RowG a u l (d :: r)
  | ask {u l d w r} : wayOf d = some w → headW d = "ask" → RowG false u l w → RowG true u l r → RowG true u l (d :: r)
theorem stB_snd (h u l : Bool) (w : Str) : (stB (h, u, l) w).2 = (stB (false, u, l) w).2 := by
  unfold stB
  repeat (first | rfl | split)
theorem rowG_nil {a u l : Bool} (h : RowG a u l []) : u = false ∧ l = false := by
  cases h
  exact ⟨rfl, rfl⟩
theorem setAll_len (S : List St3) (v : St3) : ∀ bs : List Nat, (setAll S bs v).length = S.length := by
  intro bs
  unfold setAll
  induction bs generalizing S with
  | nil => rfl
  | cons b bs ih => rw [List.foldl_cons, ih, List.length_set]
theorem setAll_ne (v : St3) (j : Nat) : ∀ (bs : List Nat) (S : List St3), j ∉ bs → (setAll S bs v)[j]? = S[j]?
  | [], _, _ => rfl
  | b :: bs, S, h => by
    have h1 : b ≠ j := fun z => h (by rw [z]; exact List.mem_cons_self)
    have h2 : j ∉ bs := fun z => h (List.mem_cons_of_mem _ z)
    have := setAll_ne v j bs (S.set b v) h2
    unfold setAll at this ⊢
    rw [List.foldl_cons, this, List.getElem?_set_ne h1]
theorem setAll_in (v : St3) (j : Nat) : ∀ (bs : List Nat) (S : List St3), j ∈ bs → j < S.length → (setAll S bs v)[j]? = some v
  | [], _, h, _ => nomatch h
  | b :: bs, S, h, hj => by
    by_cases hb : j ∈ bs
    · have := setAll_in v j bs (S.set b v) hb (by rw [List.length_set]; exact hj)
      unfold setAll at this ⊢
      rw [List.foldl_cons, this]
    · have e : j = b := (List.mem_cons.mp h).resolve_right hb
      subst e
      have := setAll_ne v j bs (S.set j v) hb
      unfold setAll at this ⊢
      rw [List.foldl_cons, this, List.getElem?_set_self hj]
theorem getD_of {S : List St3} {i : Nat} {s : St3} (h : S[i]? = some s) : S.getD i (false, false, false) = s := by rw [List.getD_eq_getElem?_getD, h]; rfl
/-- what was passed stays -/
theorem runs_keep (e : Nat) : ∀ (L : List (PyData × List Nat)) (i : Nat) (S : List St3), Good e i L S → ∀ j, j ≤ i → (runs S i L)[j]? = S[j]?
  | [], _, _, _, _, _ => rfl
  | (d, bs) :: r, i, S, h, j, hj => by
    obtain ⟨_, h2, h3⟩ := h
    show (runs _ (i + 1) r)[j]? = _
    rw [runs_keep e r (i + 1) _ h3 j (by omega)]
    exact setAll_ne _ _ _ _ fun z => by have := h2 j z; omega
/-- at the end each place is let by -/
theorem good_at (e : Nat) : ∀ (L : List (PyData × List Nat)) (i : Nat) (S : List St3), Good e i L S → ∀ k d bs, L[k]? = some (d, bs) → okAt e d bs ((runs S i L).getD (i + k) (false, false, false))
  | [], _, _, _, _, _, _, hk => nomatch hk
  | (d0, b0) :: r, i, S, h, 0, d, bs, hk => by
    have hp : (d0, b0) = (d, bs) := Option.some.inj hk
    rw [hp] at h ⊢
    have e1 := runs_keep e ((d, bs) :: r) i S h i (Nat.le_refl _)
    have := h.1
    rw [List.getD_eq_getElem?_getD] at this ⊢
    rw [Nat.add_zero, e1]
    exact this
  | (d0, b0) :: r, i, S, h, k + 1, d, bs, hk => by
    have := good_at e r (i + 1) _ h.2.2 k d bs hk
    rw [show i + (k + 1) = i + 1 + k by omega]
    exact this
theorem good_app (e : Nat) : ∀ (A B : List (PyData × List Nat)) (i : Nat) (S : List St3), Good e i A S → Good e (i + A.length) B (runs S i A) → Good e i (A ++ B) S
  | [], _, _, _, _, h => h
  | (d, bs) :: r, B, i, S, h, k => ⟨h.1, h.2.1, good_app e r B (i + 1) _ h.2.2 (by
      have : i + ((d, bs) :: r).length = i + 1 + r.length := by rw [List.length_cons]; omega
      rw [this] at k
      exact k)⟩
theorem runs_len : ∀ (L : List (PyData × List Nat)) (i : Nat) (S : List St3), (runs S i L).length = S.length
  | [], _, _ => rfl
  | (d, bs) :: r, i, S => by
    show (runs _ (i + 1) r).length = _
    rw [runs_len r (i + 1), setAll_len]
/-- a place that nothing leads to stays -/
theorem runs_ne (j : Nat) : ∀ (L : List (PyData × List Nat)) (i : Nat) (S : List St3), (∀ p ∈ L, j ∉ p.2) → (runs S i L)[j]? = S[j]?
  | [], _, _, _ => rfl
  | (d, bs) :: r, i, S, h => by
    show (runs _ (i + 1) r)[j]? = _
    rw [runs_ne j r (i + 1) _ fun p hp => h p (List.mem_cons_of_mem _ hp)]
    exact setAll_ne _ _ _ _ (h (d, bs) List.mem_cons_self)
theorem chain_len (e : Nat) : ∀ n o : Nat, (chain e o n).length = n
  | 0, _ => rfl
  | 1, _ => rfl
  | n + 2, o => by
    show (chain e (o + 1) (n + 1)).length + 1 = _
    rw [chain_len e (n + 1)]
theorem chain_mem (e : Nat) : ∀ (n o : Nat) (bs : List Nat), bs ∈ chain e o n → ∀ b ∈ bs, b = e ∨ (o < b ∧ b < o + n)
  | 0, _, _, h, _, _ => nomatch h
  | 1, _, bs, h, b, hb => by
    have e1 : bs = [e] := List.mem_singleton.mp h
    rw [e1] at hb
    exact .inl (List.mem_singleton.mp hb)
  | n + 2, o, bs, h, b, hb => by
    rcases List.mem_cons.mp h with rfl | h
    · have := List.mem_singleton.mp hb
      exact .inr ⟨by omega, by omega⟩
    · rcases chain_mem e (n + 1) (o + 1) bs h b hb with h | ⟨h1, h2⟩
      · exact .inl h
      · exact .inr ⟨by omega, by omega⟩
/-- a way out -/
theorem inner (e : Nat) : ∀ (w : List PyData) (u l : Bool), RowG false u l w → ∀ (o : Nat) (S : List St3), o + w.length ≤ e → S.length = e + 1 → (w ≠ [] → ∃ h, S[o]? = some (h, u, l)) → Good e o (w.zip (chain e o w.length)) S
  | [], _, _, _, _, _, _, _, _ => trivial
  | [d], u, l, h, o, S, he, hS, h0 => by
    obtain ⟨hh, h0⟩ := h0 (by simp)
    refine ⟨?_, fun b hb => ?_, trivial⟩
    · rw [getD_of h0]
      cases h with
      | lets => exact ⟨rfl, fun _ => rfl, fun _ => rfl⟩
      | item h1 h2 h3 h4 =>
        obtain ⟨k1, k2⟩ := rowG_nil h4
        exact ⟨h3, fun z => absurd z h2, fun _ => by rw [stB_snd]; exact Prod.ext k1 k2⟩
    · have : b = e := List.mem_singleton.mp hb
      have : o + 1 ≤ e := he
      omega
  | d :: d2 :: r, u, l, h, o, S, he, hS, h0 => by
    obtain ⟨hh, h0⟩ := h0 (by simp)
    have he : o + (r.length + 2) ≤ e := he
    cases h with
    | item h1 h2 h3 h4 =>
      refine ⟨?_, fun b hb => ?_, ?_⟩
      · rw [getD_of h0]
        refine ⟨h3, fun z => absurd z h2, fun z => ?_⟩
        have : e = o + 1 := List.mem_singleton.mp z
        omega
      · have : b = o + 1 := List.mem_singleton.mp hb
        omega
      · rw [getD_of h0]
        refine inner e (d2 :: r) _ _ h4 (o + 1) _ (by show o + 1 + (r.length + 1) ≤ e; omega) (by rw [setAll_len]; exact hS) fun _ => ⟨(stB (hh, u, l) (headW d)).1, ?_⟩
        rw [setAll_in _ (o + 1) [o + 1] S (List.mem_singleton.mpr rfl) (by omega)]
        congr 1
        exact Prod.ext rfl (stB_snd hh u l (headW d))
theorem leads_none {e o : Nat} {d : PyData} {r : List PyData} (h : wayOf d = none) : leads e o (d :: r) = [o + 1] :: leads e (o + 1) r := by
  rw [leads, h]
theorem leads_some {e o : Nat} {d : PyData} {r w : List PyData} (h : wayOf d = some w) : leads e o (d :: r) = [o + 1 + w.length, if w.length = 0 then e else o + 1] :: (chain e (o + 1) w.length ++ leads e (o + 1 + w.length) r) := by
  rw [leads, h]
theorem leads_len (e : Nat) : ∀ (r : List PyData) (o : Nat), (leads e o r).length = (spread r).length
  | [], _ => rfl
  | d :: r, o => by
    have es : spread (d :: r) = d :: (way d ++ spread r) := rfl
    rw [es, List.length_cons, List.length_append]
    cases h : wayOf d with
    | none =>
      have hw : way d = [] := by unfold way; rw [h]; rfl
      rw [leads_none h, List.length_cons, leads_len e r, hw]
      simp
    | some w =>
      have hw : way d = w := by unfold way; rw [h]; rfl
      rw [leads_some h, List.length_cons, List.length_append, chain_len, leads_len e r, hw]
theorem spread_cons (d : PyData) (r : List PyData) : spread (d :: r) = d :: (way d ++ spread r) := rfl
/-- the row itself -/
theorem outer (e : Nat) : ∀ (r : List PyData) (u l : Bool), RowG true u l r → ∀ (o : Nat) (S : List St3), o + (spread r).length = e → S.length = e + 1 → (r ≠ [] → ∃ h, S[o]? = some (h, u, l)) → Good e o ((spread r).zip (leads e o r)) S
  | [], _, _, _, _, _, _, _, _ => trivial
  | d :: r, u, l, h, o, S, he, hS, h0 => by
    obtain ⟨hh, g0⟩ := h0 (by simp)
    rw [spread_cons] at he ⊢
    rw [List.length_cons, List.length_append] at he
    have cl : ∀ {u' l' : Bool}, RowG true u' l' r → (spread r).length = 0 → u' = false ∧ l' = false := fun {u' l'} k z => by
      cases r with
      | nil => exact rowG_nil k
      | cons a b => rw [spread_cons] at z; simp at z
    cases h with
    | lets =>
      refine ⟨?_, fun b hb => ?_, trivial⟩
      · rw [getD_of g0]
        have e1 : o + 1 = e := he
        exact ⟨rfl, fun _ => by rw [e1], fun _ => rfl⟩
      · have : b = o + 1 := List.mem_singleton.mp hb
        omega
    | item h1 h2 h3 h4 =>
      have hw : way d = [] := by unfold way; rw [h1]; rfl
      have hL := leads_none (e := e) (o := o) (r := r) h1
      rw [hw] at he ⊢
      rw [hL]
      have he : o + 1 + (spread r).length = e := by simp at he; omega
      refine ⟨?_, fun b hb => ?_, ?_⟩
      · rw [getD_of g0]
        refine ⟨h3, fun z => absurd z h2, fun z => ?_⟩
        have : e = o + 1 := List.mem_singleton.mp z
        obtain ⟨k1, k2⟩ := cl h4 (by omega)
        rw [stB_snd]
        exact Prod.ext k1 k2
      · have : b = o + 1 := List.mem_singleton.mp hb
        omega
      · rw [getD_of g0]
        refine outer e r _ _ h4 (o + 1) _ he (by rw [setAll_len]; exact hS) fun _ => ⟨(stB (hh, u, l) (headW d)).1, ?_⟩
        rw [setAll_in _ (o + 1) [o + 1] S (List.mem_singleton.mpr rfl) (by omega)]
        congr 1
        exact Prod.ext rfl (stB_snd hh u l (headW d))
    | @ask _ _ _ w _ h1 h2 h3 h4 =>
      have hw : way d = w := by unfold way; rw [h1]; rfl
      have hL := leads_some (e := e) (o := o) (r := r) h1
      rw [hw] at he ⊢
      rw [hL]
      have same : stB (hh, u, l) (headW d) = (hh, u, l) := by rw [h2]; rfl
      have hx : (if w.length = 0 then e else o + 1) = e ∧ w = [] ∨ (if w.length = 0 then e else o + 1) = o + 1 ∧ w ≠ [] := by
        cases w with
        | nil => exact .inl ⟨rfl, rfl⟩
        | cons a b => exact .inr ⟨if_neg (by simp), by simp⟩
      generalize (if w.length = 0 then e else o + 1) = x at hx ⊢
      have hxe : o < x ∧ x ≤ e := by rcases hx with ⟨rfl, _⟩ | ⟨rfl, _⟩ <;> omega
      refine ⟨?_, fun b hb => ?_, ?_⟩
      · rw [getD_of g0]
        refine ⟨by rw [h2]; rfl, fun z => absurd (h2.symm.trans z) (by decide), fun z => ?_⟩
        rw [same]
        rcases List.mem_cons.mp z with z | z
        · obtain ⟨k1, k2⟩ := cl h4 (by omega)
          exact Prod.ext k1 k2
        · have z := List.mem_singleton.mp z
          rcases hx with ⟨_, rfl⟩ | ⟨k, kw⟩
          · obtain ⟨k1, k2⟩ := rowG_nil h3
            exact Prod.ext k1 k2
          · have : w.length ≠ 0 := fun q => kw (List.length_eq_zero_iff.mp q)
            obtain ⟨k1, k2⟩ := cl h4 (by omega)
            exact Prod.ext k1 k2
      · rcases List.mem_cons.mp hb with rfl | hb
        · omega
        · have := List.mem_singleton.mp hb
          omega
      · rw [getD_of g0, same]
        have hT : (setAll S [o + 1 + w.length, x] (hh, u, l)).length = e + 1 := by rw [setAll_len]; exact hS
        have z1 : w ≠ [] → (setAll S [o + 1 + w.length, x] (hh, u, l))[o + 1]? = some (hh, u, l) := fun k => by
          rcases hx with ⟨_, q⟩ | ⟨rfl, _⟩
          · exact absurd q k
          · exact setAll_in _ _ _ S (List.mem_cons_of_mem _ (List.mem_singleton.mpr rfl)) (by omega)
        have z2 : (setAll S [o + 1 + w.length, x] (hh, u, l))[o + 1 + w.length]? = some (hh, u, l) := setAll_in _ _ _ S List.mem_cons_self (by omega)
        generalize setAll S [o + 1 + w.length, x] (hh, u, l) = T at hT z1 z2 ⊢
        have hz : (w ++ spread r).zip (chain e (o + 1) w.length ++ leads e (o + 1 + w.length) r) = w.zip (chain e (o + 1) w.length) ++ (spread r).zip (leads e (o + 1 + w.length) r) := List.zip_append (by rw [chain_len])
        show Good e (o + 1) ((w ++ spread r).zip (chain e (o + 1) w.length ++ leads e (o + 1 + w.length) r)) T
        rw [hz]
        refine good_app e _ _ (o + 1) T (inner e w u l h3 (o + 1) T (by omega) hT fun k => ⟨hh, z1 k⟩) ?_
        have hl : (w.zip (chain e (o + 1) w.length)).length = w.length := by rw [List.length_zip, chain_len, Nat.min_self]
        rw [hl]
        refine outer e r u l h4 (o + 1 + w.length) _ (by omega) (by rw [runs_len]; exact hT) fun k => ⟨hh, ?_⟩
        rw [runs_ne (o + 1 + w.length) _ _ _ fun p hp hb => ?_]
        · exact z2
        · have hr : (spread r).length ≠ 0 := by
            cases r with
            | nil => exact absurd rfl k
            | cons a b => rw [spread_cons]; simp
          rcases chain_mem e w.length (o + 1) p.2 (List.of_mem_zip hp).2 _ hb with q | ⟨q1, q2⟩ <;> omega
end LY

namespace K05
open PySem PySem.Spec PyProof.Rows L2 TL GG OO LY
def topS (i : Nat) : Stmt := PySem.Challenge.pw_pulledout_k05_rows_refused.main.body.getD i (.Pass ⟨0, 0, 0, 0⟩)
abbrev s_wall : Stmt := topS 0
abbrev s_PullError : Stmt := topS 2
abbrev s_InvalidItem : Stmt := topS 3
abbrev s_InvalidNumber : Stmt := topS 4
abbrev s_is_name : Stmt := topS 7
abbrev s_is_integer : Stmt := topS 8
abbrev s_is_item : Stmt := topS 15
abbrev s_is_way_item : Stmt := topS 16
abbrev s_is_ask_head : Stmt := topS 17
abbrev s_is_ask : Stmt := topS 18
abbrev s_is_bare : Stmt := topS 19
abbrev s_is_named : Stmt := topS 20
abbrev s_is_word : Stmt := topS 21
abbrev s_Layout : Stmt := topS 28
abbrev s_check_items : Stmt := topS 29
abbrev s_opening_of : Stmt := topS 30
abbrev s_check_places : Stmt := topS 31
abbrev s_check_way_out : Stmt := topS 32
abbrev s_way_out_of : Stmt := topS 33
abbrev s_spread : Stmt := topS 34
abbrev s_leads : Stmt := topS 35
abbrev s_standings : Stmt := topS 36
abbrev s_standing_behind : Stmt := topS 37
abbrev s_may_stand : Stmt := topS 38
abbrev s_ends_badly : Stmt := topS 39
abbrev s_HandRow : Stmt := topS 43
abbrev s_WorkRow : Stmt := topS 44
abbrev s_checked : Stmt := topS 45
abbrev s_checked_place : Stmt := topS 46
abbrev s_l_numbers : Stmt := topS 48
abbrev s_l_pool : Stmt := topS 49
abbrev s_l_draw : Stmt := topS 50
abbrev s_l_pick : Stmt := topS 51
abbrev s_l_closing : Stmt := topS 52
abbrev s_l_way_out : Stmt := topS 53
abbrev s_l_body : Stmt := topS 54
abbrev s_l_hand : Stmt := topS 55
abbrev s_l_work : Stmt := topS 56
abbrev s_l_flags : Stmt := topS 57
abbrev s_l_has_out : Stmt := topS 58
abbrev s_l_numbered : Stmt := topS 59
abbrev s_l_form_wrong : Stmt := topS 60
abbrev s_l_opening : Stmt := topS 61
abbrev s_l_step_wrong : Stmt := topS 62
abbrev s_l_rule_wrong : Stmt := topS 63
abbrev s_l_due : Stmt := topS 64
abbrev s_l_heard : Stmt := topS 65
abbrev s_l_bent : Stmt := topS 66
abbrev s_law : Stmt := topS 67
/-- built-ins by their names -/
structure Blt (K : PySem.W.Frag) (mg : Str → Option Value) : Prop where
  m_max : mg "max" = none
  m_range : mg "range" = none
  m_len : mg "len" = none
  m_int : mg "int" = none
  m_bool : mg "bool" = none
  m_isinstance : mg "isinstance" = none
  m_str : mg "str" = none
  m_all : mg "all" = none
  m_any : mg "any" = none
  m_tuple : mg "tuple" = none
  m_list : mg "list" = none
  m_enumerate : mg "enumerate" = none
  m_repr : mg "repr" = none
  m_min : mg "min" = none
  m_dict : mg "dict" = none
section
variable {P : Program} {w : World} {K : PySem.W.Frag} {mg : Str → Option Value} {base : Heap}
def spNum (K : PySem.W.Frag) : Sp := fun vs H Q _ => ∃ (c s : Int) (a : Addr) (zs : List Int), vs = [.int c, .int s, .ref a] ∧ SqL K H a (zs.map V.int) ∧ (0 ≤ s ∧ s ≤ 100000) ∧ zs.length ≤ 1000 ∧ (∀ z ∈ zs, 0 < z ∧ z < 1000000) ∧
  ∀ (H' : Hp) (p : Addr) (ns : List Int), Same H H' → H p = none → H' p = some (.lst (ns.map V.int)) → ns.length = zs.length → Below zs ns → Q (.ref p) H'
theorem small_mod (x : Int) : (x % 2147483629).natAbs < 2 ^ 64 := by
  have h1 := Int.emod_nonneg x (show (2147483629 : Int) ≠ 0 by decide)
  have h2 := Int.emod_lt_of_pos x (show (0 : Int) < 2147483629 by decide)
  omega
theorem scNum : FnScope ["_law_cell", "_law_salt", "_law_sizes", "_law_whole", "_law_left", "_law_result", "_law_k", "_law_one"] ["_law_cell", "_law_salt", "_law_sizes"] (defScope s_l_numbers) := ⟨rfl, rfl, rfl, by decide +kernel, rfl, by decide +kernel, by decide +kernel⟩
theorem ok_num {f : Addr} {fd : FuncData} (F : Fun K "_law_numbers" "_law_numbers" s_l_numbers f fd) (mm : mg "max" = none) (mr : mg "range" = none) (ml : mg "len" = none) : FnOk P w K mg base CX0 1 f fd ["_law_cell", "_law_salt", "_law_sizes"] (spNum K) := by
  refine F.ok scNum (fun vs H Q E h => ?_) (fun cdv A outer s H vs Q E hr h => ?_)
  · obtain ⟨c, s, a, zs, rfl, _⟩ := h
    rfl
  · obtain ⟨c, sa, a, zs, rfl, hS, ⟨hs0, hs1⟩, hlen, hz, q⟩ := h
    refine ⟨_, (pss_cons (ps_set (i := 3) scNum.nd rfl (.inl rfl) (pe_callB (call_max2 rfl) (by rfl) mm (by decide +kernel) (pa_cons (pv 0) (pa_cons (pe_op op_sub (pe_un un_neg pe_int) (pv 0)) pa_nil)))) 
        (pss_cons (ps_set (i := 4) scNum.nd rfl (.inl rfl) (pv 3)) 
        (pss_cons (ps_set (i := 5) scNum.nd rfl (.inl rfl) (pe_lst pa_nil)) 
        (pss_cons (ps_for PassesOwn.never rfl (pi_range1 rfl mr (pa_cons (pe_callB call_len_seq (by rfl) ml PySem.boot_len (pa_cons (pv 2) pa_nil)) pa_nil)) (pg_name (i := 6) scNum.nd rfl (.inl rfl)) 
          (pss_one (ps_if (PW.pt (pw_and (pt_cmpR op_ge (pv 3) (pe_op op_pow pe_int pe_int) (nomark _)) (pw_and1 (pt_cmpR op_gt (pv 4) pe_int (nomark _))))) 
            (pss_cons (ps_expr (pe_bm PySem.F.plainAttrs_list PySem.F.slot_list_append PySem.F.type_list_append mt_append (pv 5) (pa_cons (pe_op op_mod (pv 4) (pe_ix ix_list (pv 2) (pv 6) (fun _ _ => rfl))) pa_nil))) 
            (pss_one (ps_set (i := 4) scNum.nd rfl (.inl rfl) (pe_op op_fdivN (pv 4) (pe_ix ix_list (pv 2) (pv 6) (fun _ _ => rfl)))))) 
            (pss_cons (ps_set (i := 7) scNum.nd rfl (.inl rfl) (pe_op op_mod (pe_op op_pow (pe_op op_add (pe_op op_add (pe_op op_mod (pv 3) pe_int) (pe_op op_mul pe_int (pv 1))) pe_int) pe_int) pe_int)) 
            (pss_cons (ps_set (i := 7) scNum.nd rfl (.inl rfl) (pe_op op_mod (pe_op op_mul (pe_op op_add (pv 7) (pe_op op_mul pe_int (pe_op op_add (pv 6) pe_int))) (pe_op op_add (pv 6) pe_int)) pe_int)) 
            (pss_cons (ps_set (i := 7) scNum.nd rfl (.inl rfl) (pe_op op_mod (pe_op op_mul (pe_op op_mod (pe_op op_pow (pv 7) pe_int) pe_int) pe_int) pe_int)) 
            (pss_one (ps_expr (pe_bm PySem.F.plainAttrs_list PySem.F.slot_list_append PySem.F.type_list_append mt_append (pv 5) (pa_cons (pe_op op_mod (pe_op op_fdivN (pv 7) pe_int) (pe_ix ix_list (pv 2) (pv 6) (fun _ _ => rfl))) pa_nil)))))))))) 
        (pss_one (ps_ret (pv 5))))))), ?_⟩
    -- whole = max(cell, -1 - cell); left = whole; result = []
    refine ⟨_, rfl, _, rfl, _, rfl, _, _, rfl, rfl, _, _, rfl, _, rfl, ?_⟩
    generalize hwh : (if -1 - c > c then -1 - c else c) = wh
    refine ⟨Nat.zero_le _, fun p hp => ?_⟩
    have s0 : Same H (upd H p (.lst [])) := same_upd hp
    refine ⟨_, rfl, a, zs.map V.int, rfl, .inl (s0.seq hS), _, rfl, by rw [List.length_map]; omega, by rw [List.length_map]; omega, for_range (lo := 0) (fun i σ H' => ∃ (left : Int) (ns : List Int) (y6 y7 : Option V), σ = [some (.int c), some (.int sa), some (.ref a), some (.int wh), some (.int left), some (.ref p), y6, y7] ∧ Same H H' ∧ H' p = some (.lst (ns.map V.int)) ∧ ns.length = i ∧ Below zs ns)
      ⟨wh, [], none, none, rfl, s0, upd_same, rfl, fun i z n _ h => by simp at h⟩ ?_ ?_⟩
    · rintro i σ H' hi ⟨left, ns, y6, y7, rfl, s1, hp1, hn, hb⟩
      have hi2 : i < zs.length := by
        rw [List.length_map] at hi
        omega
      have hzi : zs[i]? = some zs[i] := List.getElem?_eq_getElem hi2
      obtain ⟨hz0, hz1⟩ := hz zs[i] (List.getElem_mem hi2)
      have hat : atI (zs.map V.int) (0 + (i : Int)) = some (.int zs[i]) := by
        rw [Int.zero_add]
        exact atI_nat (by rw [List.getElem?_map, hzi]; rfl)
      have fin : ∀ (r : Int), 0 ≤ r → r < zs[i] → ns.length < sizeLine ∧ Same H (upd H' p (.lst (ns.map V.int ++ [V.int r]))) ∧ (upd H' p (.lst (ns.map V.int ++ [V.int r]))) p = some (.lst ((ns ++ [r]).map V.int)) ∧ (ns ++ [r]).length = i + 1 ∧ Below zs (ns ++ [r]) := fun r h0 h1 =>
        ⟨small1000 (by omega), same_st s1 hp, by rw [upd_same, List.map_append]; rfl, by rw [List.length_append, List.length_singleton, hn], below_snoc hb (by rw [hn]; exact hzi) h0 h1⟩
      refine ⟨_, rfl, _, _, rfl, rfl, ⟨by decide, by decide, by decide⟩, _, _, rfl, rfl, _, rfl, ite2 (fun _ => ⟨_, rfl, _, _, rfl, rfl, _, rfl, ite2 (fun _ => ?thn) (fun _ => ?els1)⟩) (fun _ => iteF ?els2)⟩
      case thn =>
        obtain ⟨f1, f2, f3, f4, f5⟩ := fin (left % zs[i]) (Int.emod_nonneg _ (by omega)) (Int.emod_lt_of_pos _ hz0)
        refine ⟨_, rfl, .inl ⟨rfl, _, .inl (.inl hp1)⟩, _, rfl, _, rfl, _, rfl, a, zs.map V.int, _, _, rfl, rfl, s1.seq hS, hat, _, _, rfl, rfl, hz0, p, _, _, rfl, rfl, hp1, (by rw [List.length_map]; exact f1), ?_⟩
        refine ⟨_, rfl, _, rfl, _, rfl, a, zs.map V.int, _, _, rfl, rfl, f2.seq hS, hat, _, _, rfl, rfl, ⟨by omega, by omega⟩, ?_⟩
        exact ⟨_, _, _, _, rfl, f2, f3, f4, f5⟩
      all_goals
        refine ⟨_, rfl, _, _, rfl, rfl, by show (0 : Int) < 2147483629; decide, _, rfl, _, _, rfl, rfl, .inl ⟨by decide, by decide⟩, _, _, rfl, rfl, _, _, rfl, rfl, _, _, rfl, rfl, ⟨by decide, by decide, ?b1⟩, _, _, rfl, rfl, by show (0 : Int) < 2147483647; decide, ?_⟩
        case b1 =>
          have h1 := Int.emod_nonneg wh (show (2147483629 : Int) ≠ 0 by decide)
          have h2 := Int.emod_lt_of_pos wh (show (0 : Int) < 2147483629 by decide)
          show (wh % 2147483629 + 7919 * sa + 1).natAbs < 2 ^ 64
          omega
        refine ⟨_, rfl, _, rfl, _, _, rfl, rfl, _, _, rfl, rfl, .inl ⟨by decide, by decide⟩, _, _, rfl, rfl, _, rfl, _, _, rfl, rfl, _, _, rfl, rfl, .inr ⟨?b2, ?b3⟩, _, _, rfl, rfl, by show (0 : Int) < 2147483629; decide, ?_⟩
        case b2 =>
          show -(2 ^ 64) < (0 + (i : Int)) + 3
          omega
        case b3 =>
          show (0 + (i : Int)) + 3 < 2 ^ 64
          omega
        refine ⟨_, rfl, _, _, rfl, rfl, ⟨by decide, by decide, small_mod _⟩, _, _, rfl, rfl, by show (0 : Int) < 2147483647; decide, _, _, rfl, rfl, .inr ⟨by decide, by decide⟩, _, _, rfl, rfl, by show (0 : Int) < 2147483629; decide, ?_⟩
        have fe := fun r : Int => fin (r % zs[i]) (Int.emod_nonneg _ (by omega)) (Int.emod_lt_of_pos _ hz0)
        refine ⟨_, rfl, .inl ⟨rfl, _, .inl (.inl hp1)⟩, _, rfl, _, _, rfl, rfl, ⟨by decide, by decide⟩, _, rfl, _, rfl, a, zs.map V.int, _, _, rfl, rfl, s1.seq hS, hat, _, _, rfl, rfl, hz0, p, _, _, rfl, rfl, hp1, (by rw [List.length_map]; exact (fe 0).1), ?_⟩
        exact ⟨_, _, _, _, rfl, (fe _).2.1, (fe _).2.2.1, (fe _).2.2.2.1, (fe _).2.2.2.2⟩
    · rintro σ H' ⟨left, ns, y6, y7, rfl, s1, hp1, hn, hb⟩
      exact ⟨_, rfl, q H' p ns s1 hp hp1 (by rw [hn, List.length_map]; omega) hb⟩
def spPool (K : PySem.W.Frag) : Sp := fun vs H Q _ => ∃ (c sa m : Int), vs = [.int c, .int sa, .int m] ∧ (0 ≤ sa ∧ sa ≤ 100000) ∧ (0 ≤ m ∧ m ≤ 1000) ∧ ∀ R H' p, Same H R → Rest p R H' → Same H H' → Q (.ref p) H'
def spDraw (K : PySem.W.Frag) : Sp := fun vs H Q _ => ∃ (p : Addr) (m : Int) (R : Hp), vs = [.ref p, .int m] ∧ 0 < m ∧ Rest p R H ∧ ∀ r H', 0 ≤ r → r < m → Go p R H R H' → Q (.int r) H'
def spPick (K : PySem.W.Frag) : Sp := fun vs H Q _ => ∃ (p a : Addr) (R : Hp) (xs : List V), vs = [.ref p, .ref a] ∧ SqL K R a xs ∧ 0 < xs.length ∧ Rest p R H ∧ ∀ x H', x ∈ xs → Go p R H R H' → Q x H'
theorem sc_l_pool : FnScope ["_law_cell", "_law_salt", "_law_many"] ["_law_cell", "_law_salt", "_law_many"] (defScope s_l_pool) := ⟨rfl, rfl, rfl, by decide +kernel, rfl, by decide +kernel, by decide +kernel⟩
theorem ok_l_pool {f : Addr} {fd : FuncData} (F : Fun K "_law_pool" "_law_pool" s_l_pool f fd) (T : Blt K mg) {f1 : Addr} {fd1 : FuncData} (F_l_numbers : Fun K "_law_numbers" "_law_numbers" s_l_numbers f1 fd1) (b_l_numbers : Binds K fd1 ["_law_cell", "_law_salt", "_law_sizes"] []) (g_l_numbers : mg "_law_numbers" = some (.ref f1)) (G_l_numbers : FnOk P w K mg base CX0 1 f1 fd1 ["_law_cell", "_law_salt", "_law_sizes"] (spNum K)) : FnOk P w K mg base CX0 2 f fd ["_law_cell", "_law_salt", "_law_many"] (spPool K) := by
  refine F.ok sc_l_pool (fun vs H Q E h => ?_) (fun cdv A outer s H vs Q E hr h => ?_)
  · obtain ⟨c, sa, m, rfl, _⟩ := h
    rfl
  · obtain ⟨c, sa, m, rfl, hsa, ⟨hm0, hm1⟩, q⟩ := h
    refine ⟨_, (pss_one (ps_ret (pe_lst (pa_cons (pe_call G_l_numbers hr (by rfl) g_l_numbers F_l_numbers.kp b_l_numbers .nil pass0 (pa_cons (pv 0) (pa_cons (pv 1) (pa_cons (pe_op op_rep (pe_lst (pa_cons pe_int pa_nil)) (pv 2)) pa_nil)))) (pa_cons pe_int pa_nil))))), ?_⟩
    have em : (m.toNat : Int) = m := by omega
    refine ⟨_, rfl, _, rfl, (by show 1 ≤ sizeLine; decide), fun l hl => ⟨_, rfl, l, m, [V.int 420], rfl, rfl, upd_same, by omega, by omega, ?z1, fun r hr => ?_⟩⟩
    case z1 =>
      show 1 * m.toNat ≤ sizeLine
      exact Nat.le_of_lt (small1000 (by omega))
    have el : (List.replicate m.toNat [V.int 420]).flatten = (List.replicate m.toNat (420 : Int)).map V.int := by
      generalize m.toNat = j
      induction j with
      | zero => rfl
      | succ j ih =>
        rw [List.replicate_succ, List.replicate_succ, List.flatten_cons, ih]
        rfl
    have s1 : Same H (upd (upd H l (.lst [V.int 420])) r (.lst (List.replicate m.toNat [V.int 420]).flatten)) := (same_upd hl).trans (same_upd hr)
    refine ⟨c, sa, r, List.replicate m.toNat 420, rfl, .inl (.inl (by rw [upd_same, el])), hsa, by rw [List.length_replicate]; omega, (fun z hz => by rw [(List.mem_replicate.mp hz).2]; decide), fun H3 d ds s9 hdn ed hdl hb => ?_⟩
    refine ⟨(by show 2 ≤ sizeLine; decide), fun p hp => ?_⟩
    have s3 : Same H H3 := s1.trans s9
    have hHd : H d = none := s1.free hdn
    have hpd : d ≠ p := fun e => by
      rw [e, hp] at ed
      cases ed
    refine q (upd H d (.lst (ds.map V.int))) _ p (same_upd hHd) ⟨fun b x e => ?_, ?_, d, ds, 0, upd_same, upd_same, by decide⟩ (s3.trans (same_upd hp))
    · by_cases h : b = d
      · rw [h, upd_same] at e
        rw [h, upd_ne hpd, ed, e]
      · rw [upd_ne h] at e
        exact (s3.trans (same_upd hp)) b x e
    · rw [upd_ne hpd.symm]
      exact s3.free hp
theorem sc_l_draw : FnScope ["_law_pool_here", "_law_many", "_law_at"] ["_law_pool_here", "_law_many"] (defScope s_l_draw) := ⟨rfl, rfl, rfl, by decide +kernel, rfl, by decide +kernel, by decide +kernel⟩
theorem ok_l_draw {f : Addr} {fd : FuncData} (F : Fun K "_law_draw" "_law_draw" s_l_draw f fd) (T : Blt K mg) : FnOk P w K mg base CX0 1 f fd ["_law_pool_here", "_law_many"] (spDraw K) := by
  refine F.ok sc_l_draw (fun vs H Q E h => ?_) (fun cdv A outer s H vs Q E hr h => ?_)
  · obtain ⟨p, m, R, rfl, _⟩ := h
    rfl
  · obtain ⟨p, m, R, rfl, hm, k, q⟩ := h
    refine ⟨_, (pss_cons (ps_set (i := 2) sc_l_draw.nd rfl (.inl rfl) (pe_ix ix_list (pv 0) pe_int (fun _ _ => rfl))) 
        (pss_cons (ps_asg (pe_op op_add (pv 2) pe_int) (pg_sub (pv 0) pe_int set_list)) 
        (pss_one (ps_ret (pe_ifExp (pt_cmpR op_lt (pv 2) (pe_callB call_len_seq (by rfl) T.m_len PySem.boot_len (pa_cons (pe_ix ix_list (pv 0) pe_int (fun _ _ => rfl)) pa_nil)) (nomark _)) (pe_op op_mod (pe_callTy call_int1 (by rfl) T.m_int (by decide +kernel) (pa_cons (pe_ix ix_seq (pe_ix ix_list (pv 0) pe_int (fun _ _ => rfl)) (pv 2) (fun _ _ => rfl)) pa_nil)) (pv 1)) pe_int))))), ?_⟩
    obtain ⟨s0, hRp, d, ns, n, hp, hd, hn⟩ := id k
    have hdp : d ≠ p := fun e => by
      rw [e, hRp] at hd
      cases hd
    have g : Go p R H R (upd H p (.lst [.ref d, .int (n + 1)])) := ⟨Same.refl _, ⟨same_st s0 hRp, hRp, d, ns, n + 1, upd_same, hd, by omega⟩, fun b hb o e => by rw [upd_ne hb]; exact e, fun _ _ _ h => h⟩
    have hd' : SqL K (upd H p (.lst [.ref d, .int (n + 1)])) d (ns.map V.int) := .inl (.inl (g.rest.1 _ _ hd))
    refine ⟨_, rfl, p, _, _, _, rfl, rfl, .inl (.inl hp), rfl, ?_⟩
    refine ⟨_, rfl, _, _, rfl, rfl, _, rfl, p, _, _, 1, rfl, rfl, hp, rfl, ?_⟩
    refine ⟨_, rfl, _, rfl, p, _, _, _, rfl, rfl, .inl (.inl upd_same), rfl, d, _, rfl, .inl hd', _, _, rfl, rfl, _, rfl, ite2 (fun h1 => ?_) (fun h1 => ?_)⟩
    · have h1 : n < ((ns.map V.int).length : Int) := of_decide_eq_true h1
      rw [List.length_map] at h1
      have hi : n.toNat < ns.length := by omega
      obtain ⟨v, hat, hv⟩ := at_int (xs := ns.map V.int) hn (by rw [List.length_map]; exact hi)
      obtain ⟨u, _, rfl⟩ := List.mem_map.mp hv
      refine ⟨_, rfl, p, _, _, _, rfl, rfl, .inl (.inl upd_same), rfl, _, rfl, .inl ⟨d, _, _, _, rfl, rfl, hd', hat, .inl ⟨_, rfl, _, rfl, _, _, rfl, rfl, hm, ?_⟩⟩⟩
      exact q _ _ (Int.emod_nonneg _ (by omega)) (Int.emod_lt_of_pos _ hm) g
    · exact q 0 _ (by decide) hm g
theorem sc_l_pick : FnScope ["_law_pool_here", "_law_some"] ["_law_pool_here", "_law_some"] (defScope s_l_pick) := ⟨rfl, rfl, rfl, by decide +kernel, rfl, by decide +kernel, by decide +kernel⟩
theorem ok_l_pick {f : Addr} {fd : FuncData} (F : Fun K "_law_pick" "_law_pick" s_l_pick f fd) (T : Blt K mg) {f1 : Addr} {fd1 : FuncData} (F_l_draw : Fun K "_law_draw" "_law_draw" s_l_draw f1 fd1) (b_l_draw : Binds K fd1 ["_law_pool_here", "_law_many"] []) (g_l_draw : mg "_law_draw" = some (.ref f1)) (G_l_draw : FnOk P w K mg base CX0 1 f1 fd1 ["_law_pool_here", "_law_many"] (spDraw K)) : FnOk P w K mg base CX0 2 f fd ["_law_pool_here", "_law_some"] (spPick K) := by
  refine F.ok sc_l_pick (fun vs H Q E h => ?_) (fun cdv A outer s H vs Q E hr h => ?_)
  · obtain ⟨p, a, R, xs, rfl, _⟩ := h
    rfl
  · obtain ⟨p, a, R, xs, rfl, hxs, hpos, k, q⟩ := h
    refine ⟨_, (pss_one (ps_ret (pe_ix ix_list (pv 1) (pe_call G_l_draw hr (by rfl) g_l_draw F_l_draw.kp b_l_draw .nil pass0 (pa_cons (pv 0) (pa_cons (pe_callB call_len_seq (by rfl) T.m_len PySem.boot_len (pa_cons (pv 1) pa_nil)) pa_nil))) (fun _ _ => rfl)))), ?_⟩
    refine ⟨_, rfl, _, rfl, _, rfl, a, xs, rfl, .inl (Same.seq k.1 hxs), p, _, R, rfl, by omega, k, fun r H' h0 h1 g => ?_⟩
    have hi : r.toNat < xs.length := by omega
    obtain ⟨v, hat, hv⟩ := at_int h0 hi
    exact ⟨a, xs, r, v, rfl, rfl, Same.seq g.rest.1 hxs, hat, q _ H' hv g⟩
end
def isName (z : Str) : Bool := decide (1 ≤ (z.length : Int)) && decide ((z.length : Int) ≤ 8) && z.cps.toList.all letB
def isNameP : PyData → Bool
  | .str z => isName z
  | _ => false
def isWordP (ws : List Str) : PyData → Bool
  | .str z => ws.any (· == z)
  | _ => false
def isBareP (ws : List Str) : PyData → Bool
  | .tuple [d] => isWordP ws d
  | _ => false
def isNamedP (ws : List Str) : PyData → Bool
  | .tuple [d, e] => isWordP ws d && isNameP e
  | _ => false
def headP (ws : List Str) : PyData → Bool
  | .tuple (d :: _) => isWordP ws d
  | _ => false
abbrev wOpen : List Str := ["look", "hold", "try"]
abbrev wBare : List Str := ["let", "enter", "leave", "touch", "use", "lock", "unlock"]
abbrev wNamed : List Str := ["start"]
abbrev wAsk : List Str := ["ask"]
abbrev wSteps : List Str := ["out", "wait", "empty", "down", "let", "lock", "unlock"]
abbrev wNSteps : List Str := ["mark", "bar", "forget", "idle"]
abbrev wUItems : List Str := ["hold", "enter", "leave", "ask", "use", "start"]
abbrev wUSteps : List Str := ["mark", "wait", "empty", "bar", "forget", "idle", "let"]
def isWayItemP (d : PyData) : Bool := isBareP wBare d || isNamedP wNamed d
def isWayOutP : PyData → Bool
  | .tuple ds => decide (ds.length ≤ 4) && ds.all isWayItemP
  | _ => false
def isAskP : PyData → Bool
  | .tuple [w, m, o] => isWordP wAsk w && (isNameP m && isWayOutP o)
  | _ => false
def isItemP (d : PyData) : Bool := isBareP wOpen d || (isWayItemP d || isAskP d)
def isStepP (d : PyData) : Bool := isBareP wSteps d || isNamedP wNSteps d
def spChk (K : PySem.W.Frag) (g : PyData → Bool) : Sp := fun vs H Q _ => ∃ (x : V) (d : PyData), vs = [x] ∧ Val K H x d ∧ ∀ H', Same H H' → Q (.bl (g d)) H'
def spChkW (K : PySem.W.Frag) (g : List Str → PyData → Bool) : Sp := fun vs H Q _ => ∃ (x : V) (d : PyData) (a : Addr) (ws : List Str), vs = [x, .ref a] ∧ Val K H x d ∧ SqT K H a (ws.map V.str) ∧ ∀ H', Same H H' → Q (.bl (g ws d)) H'
abbrev wOnce : List Str := ["out", "down", "let", "mark"]
abbrev wNotB : List Str := ["look", "hold", "try"]
abbrev wNotW : List Str := ["look", "hold", "try", "let"]
/-- what the module's names hold -/
structure Txt (K : PySem.W.Frag) (mg : Str → Option Value) (lt0 lt1 lt2 lt3 lt4 : Tok) (t0 t1 t2 t3 t4 t5 t6 t7 t8 tF tO dC : Addr) : Prop extends Blt K mg where
  c_LONGEST_NAME : mg "_LONGEST_NAME" = some (.int 8 lt0)
  c_MOST_IN_WAY_OUT : mg "_MOST_IN_WAY_OUT" = some (.int 4 lt1)
  c_MOST_ITEMS : mg "_MOST_ITEMS" = some (.int 14 lt2)
  c_LONGEST_OPENING : mg "_LONGEST_OPENING" = some (.int 4 lt4)
  c_OPENERS : mg "_OPENERS" = some (.ref t0)
  c_BARE_ITEMS : mg "_BARE_ITEMS" = some (.ref t1)
  c_NAMED_ITEMS : mg "_NAMED_ITEMS" = some (.ref t2)
  c_ASKS : mg "_ASKS" = some (.ref t3)
  c_NOT_BEHIND_OPENING : mg "_NOT_BEHIND_OPENING" = some (.ref t7)
  c_NOT_IN_WORKS : mg "_NOT_IN_WORKS" = some (.ref t8)
  c_AT_FIRST : mg "_AT_FIRST" = some (.ref tF)
  c_OPENINGS : mg "_OPENINGS" = some (.ref tO)
  c_CHANGES : mg "_CHANGES" = some (.ref dC)
  w0 : ∀ H, SqT K H t0 (wOpen.map V.str)
  w1 : ∀ H, SqT K H t1 (wBare.map V.str)
  w2 : ∀ H, SqT K H t2 (wNamed.map V.str)
  w3 : ∀ H, SqT K H t3 (wAsk.map V.str)
  w7 : ∀ H, SqT K H t7 (wNotB.map V.str)
  w8 : ∀ H, SqT K H t8 (wNotW.map V.str)
  wF : ∀ H, SqT K H tF [.bl false, .bl false, .bl false]
section
variable {P : Program} {w : World} {K : PySem.W.Frag} {mg : Str → Option Value} {base : Heap} {lt0 lt1 lt2 lt3 lt4 : Tok} {t0 t1 t2 t3 t4 t5 t6 t7 t8 tF tO dC : Addr}
theorem snoc_let {z : Str} {i c : Nat} (hc : z.cps[i]? = some c) : ((z.cps.toList.take (i + 1)).map letB).map V.bl = ((z.cps.toList.take i).map letB).map V.bl ++ [V.bl (letB c)] := by
  have h : z.cps.toList[i]? = some c := by rw [Array.getElem?_toList]; exact hc
  rw [List.take_add_one, h, List.map_append, List.map_append]
  rfl
theorem sc_is_name : FnScope ["value", "letter"] ["value"] (defScope s_is_name) := ⟨rfl, rfl, rfl, by decide +kernel, rfl, by decide +kernel, by decide +kernel⟩
theorem ok_is_name {f : Addr} {fd : FuncData} (F : Fun K "is_name" "is_name" s_is_name f fd) (T : Txt K mg lt0 lt1 lt2 lt3 lt4 t0 t1 t2 t3 t4 t5 t6 t7 t8 tF tO dC) : FnOk P w K mg base CX0 1 f fd ["value"] (spChk K isNameP) := by
  refine F.ok sc_is_name (fun vs H Q E h => ?_) (fun cdv A outer s H vs Q E hr h => ?_)
  · obtain ⟨x, d, rfl, _⟩ := h
    rfl
  · obtain ⟨x, d, rfl, hv, q⟩ := h
    refine ⟨_, (pss_cons (ps_if (PW.pt (pw_or (pt_not (pt_val (pe_callB call_isi (by rfl) T.m_isinstance (by decide +kernel) (pa_cons (pv 0) (pa_cons (pe_bltn (v := .ty "str") (u := .type "str") (by rfl) T.m_str (by decide +kernel) rfl) pa_nil))))) (pw_or1 (pt_not (pt_chain op_le op_le pe_int (pe_callB call_len_str (by rfl) T.m_len PySem.boot_len (pa_cons (pv 0) pa_nil)) (pe_glob (v := .int 8) rfl T.c_LONGEST_NAME ⟨_, rfl⟩)))))) 
          (pss_one (ps_ret pe_bl)) pss_nil) 
        (pss_one (ps_ret (pe_callB (cr_all rfl) (by rfl) T.m_all (by decide +kernel) (pa_cons (pe_lc (own := [("letter", 1)]) (g := gName 1) rfl sc_is_name.nd (pi_str (pv 0)) (blkOk_by (N := ["value", "letter"]) (sc := defScope s_is_name) (by decide +kernel)) (fun _ _ _ _ _ => pg_name (i := 1) sc_is_name.nd rfl (.inl rfl)) (fun _ _ _ _ _ => pts_nil) (fun _ _ _ _ _ => (pe_chain op_le_str op_le_str pe_str (pv 1) pe_str))) pa_nil))))), ?_⟩
    cases hd : isStr d with
    | false =>
      have e : isNameP d = false := by cases d <;> first | rfl | cases hd
      have := q H (Same.refl H)
      rw [e] at this
      exact ⟨_, rfl, _, _, _, _, false, rfl, .ty "str", hv.ty, hd ▸ isi_str d, _, rfl, iteT (iteT this)⟩
    | true =>
      obtain ⟨z, rfl⟩ : ∃ z, d = .str z := by cases d <;> first | exact ⟨_, rfl⟩ | cases hd
      obtain ⟨rfl, hz, _⟩ := hv.str
      have q : ∀ H', Same H H' → Q (.bl (isName z)) H' := q
      refine ⟨_, rfl, _, _, _, _, true, rfl, .ty "str", .base (.str z), kit_ty (by decide +kernel), _, rfl, iteF ⟨_, rfl, z, rfl, Nat.le_of_lt (small1000 hz), _, _, rfl, rfl, _, rfl, ite2 (fun h1 => ⟨_, _, rfl, rfl, _, rfl, ite2 (fun h2 => ?f2) (fun h2 => ?go)⟩) (fun h1 => ⟨_, rfl, iteT ?f1⟩)⟩⟩
      case f1 =>
        have e : isName z = false := by
          unfold isName
          simp only [Bool.not_eq_true] at h1
          rw [h1]
          rfl
        have := q H (Same.refl H)
        rw [e] at this
        exact this
      case f2 =>
        have h2' : decide ((z.length : Int) ≤ 8) = false := by simpa using h2
        have e : isName z = false := by
          unfold isName
          rw [h2', Bool.and_false]
          rfl
        have := q H (Same.refl H)
        rw [e] at this
        exact this
      case go =>
        have h2' : decide ((z.length : Int) ≤ 8) = true := by simpa using h2
        refine ⟨_, rfl, z, rfl, fun D hD => lc_it walk_str (fun i H' => Same H H' ∧ H' D = some (.lst (((z.cps.toList.take i).map letB).map V.bl))) ⟨same_upd hD, upd_same⟩ (fun _ _ _ _ => trivial) ?_ ?_⟩
        · rintro i x H1 H2 hi ⟨s1, h1⟩ ⟨rfl, c, hc, rfl⟩
          have hlt : (((z.cps.toList.take i).map letB).map V.bl).length < sizeLine := by
            rw [List.length_map, List.length_map, List.length_take]
            exact Nat.lt_of_le_of_lt (Nat.min_le_right _ _) (small1000 hz)
          have fin : ∀ r : Bool, r = letB c → ∃ acc, H2 D = some (.lst acc) ∧ acc.length < sizeLine ∧ Same H (upd H2 D (.lst (acc ++ [V.bl r]))) ∧ upd H2 D (.lst (acc ++ [V.bl r])) D = some (.lst (((z.cps.toList.take (i + 1)).map letB).map V.bl)) := fun r hr =>
            ⟨_, h1, hlt, same_st s1 hD, by rw [upd_same, snoc_let hc, hr]⟩
          refine ⟨rfl, yes_then ?_⟩
          refine ⟨_, rfl, _, _, rfl, rfl, _, rfl, ite2 (fun g1 => ⟨_, _, rfl, rfl, fin _ ?_⟩) (fun g1 => fin _ ?_)⟩
          · show (!decide ([122] < [c])) = letB c
            have g1' : (!decide ([c] < [97])) = true := g1
            unfold letB
            rw [g1', Bool.true_and]
          · have g1' : (!decide ([c] < [97])) = false := by
              cases e : (!decide ([c] < [97])) with
              | true => exact absurd e g1
              | false => rfl
            unfold letB
            rw [g1', Bool.false_and]
        · rintro H1 ⟨s1, h1⟩
          refine ⟨D, z.cps.toList.map letB, rfl, .inl (.inl (by rw [h1, List.take_of_length_le (Nat.le_of_eq (Array.length_toList ..))])), ?_⟩
          have e : (z.cps.toList.map letB).all id = isName z := by
            unfold isName
            have h1' : decide (1 ≤ (z.length : Int)) = true := by assumption
            rw [h1', h2', List.all_map]
            rfl
          rw [e]
          exact q H1 s1
theorem sc_is_word : FnScope ["value", "words"] ["value", "words"] (defScope s_is_word) := ⟨rfl, rfl, rfl, by decide +kernel, rfl, by decide +kernel, by decide +kernel⟩
theorem ok_is_word {f : Addr} {fd : FuncData} (F : Fun K "_is_word" "_is_word" s_is_word f fd) (T : Txt K mg lt0 lt1 lt2 lt3 lt4 t0 t1 t2 t3 t4 t5 t6 t7 t8 tF tO dC) : FnOk P w K mg base CX0 1 f fd ["value", "words"] (spChkW K isWordP) := by
  refine F.ok sc_is_word (fun vs H Q E h => ?_) (fun cdv A outer s H vs Q E hr h => ?_)
  · obtain ⟨x, d, a, ws, rfl, _⟩ := h
    rfl
  · obtain ⟨x, d, a, ws, rfl, hv, hw, q⟩ := h
    refine ⟨_, (pss_one (ps_ret (pe_and (pe_callB call_isi (by rfl) T.m_isinstance (by decide +kernel) (pa_cons (pv 0) (pa_cons (pe_bltn (v := .ty "str") (u := .type "str") (by rfl) T.m_str (by decide +kernel) rfl) pa_nil))) (pe_one (pe_cmpR op_in_seq (pv 0) (pv 1) (by rfl)))))), ?_⟩
    refine ⟨_, rfl, _, _, _, _, _, rfl, .ty "str", hv.ty, isi_str d, _, rfl, ite2 (fun hd => ?_) (fun hd => ?_)⟩
    · obtain ⟨z, rfl⟩ : ∃ z, d = .str z := by cases d <;> first | exact ⟨_, rfl⟩ | cases hd
      obtain ⟨rfl, hz, _⟩ := hv.str
      refine ⟨_, rfl, _, rfl, a, _, rfl, .inr hw, rfl, flat_words ws, ?_⟩
      have := q H (Same.refl H)
      show Q (.bl (inV (.str z) (ws.map V.str))) H
      rw [inV_words]
      exact this
    · have e : isWordP ws d = false := by cases d <;> first | rfl | exact absurd rfl hd
      have := q H (Same.refl H)
      rw [e] at this
      exact this
theorem sc_is_bare : FnScope ["value", "words"] ["value", "words"] (defScope s_is_bare) := ⟨rfl, rfl, rfl, by decide +kernel, rfl, by decide +kernel, by decide +kernel⟩
theorem ok_is_bare {f : Addr} {fd : FuncData} (F : Fun K "_is_bare" "_is_bare" s_is_bare f fd) (T : Txt K mg lt0 lt1 lt2 lt3 lt4 t0 t1 t2 t3 t4 t5 t6 t7 t8 tF tO dC) {f1 : Addr} {fd1 : FuncData} (F_is_word : Fun K "_is_word" "_is_word" s_is_word f1 fd1) (b_is_word : Binds K fd1 ["value", "words"] []) (g_is_word : mg "_is_word" = some (.ref f1)) (G_is_word : FnOk P w K mg base CX0 1 f1 fd1 ["value", "words"] (spChkW K isWordP)) : FnOk P w K mg base CX0 2 f fd ["value", "words"] (spChkW K isBareP) := by
  refine F.ok sc_is_bare (fun vs H Q E h => ?_) (fun cdv A outer s H vs Q E hr h => ?_)
  · obtain ⟨x, d, a, ws, rfl, _⟩ := h
    rfl
  · obtain ⟨x, d, a, ws, rfl, hv, hw, q⟩ := h
    refine ⟨_, (pss_one (ps_ret (pe_and (pe_callB call_isi (by rfl) T.m_isinstance (by decide +kernel) (pa_cons (pv 0) (pa_cons (pe_bltn (v := .ty "tuple") (u := .type "tuple") (by rfl) T.m_tuple (by decide +kernel) rfl) pa_nil))) (pe_and (pe_cmpR op_eq (pe_callB call_len_seq (by rfl) T.m_len PySem.boot_len (pa_cons (pv 0) pa_nil)) pe_int (nomark _)) (pe_one (pe_call G_is_word hr (by rfl) g_is_word F_is_word.kp b_is_word .nil pass0 (pa_cons (pe_ix ix_tup (pv 0) pe_int (fun _ _ => rfl)) (pa_cons (pv 1) pa_nil)))))))), ?_⟩
    refine ⟨_, rfl, _, _, _, _, _, rfl, .ty "tuple", hv.ty, isi_tup d, _, rfl, ite2 (fun hd => ?_) (fun hd => ?_)⟩
    · obtain ⟨ds, rfl⟩ : ∃ ds, d = .tuple ds := by cases d <;> first | exact ⟨_, rfl⟩ | cases hd
      obtain ⟨b, xs, rfl, hs, ha, hl, h1000, hget⟩ := hv.tup
      refine ⟨_, rfl, b, xs, rfl, .inr hs, rfl, _, rfl, ite2 (fun h1 => ?_) (fun h1 => ?_)⟩
      · have h1 : xs.length = 1 := by
          have := V.int.inj (of_decide_eq_true h1)
          omega
        obtain ⟨e, rfl⟩ : ∃ e, ds = [e] := List.length_eq_one_iff.mp (by omega)
        obtain ⟨v, hx, hve⟩ := hget 0 e rfl
        exact ⟨_, rfl, b, xs, _, _, rfl, rfl, hs, atI_nat hx, _, rfl, v, e, a, ws, rfl, hve, hw, fun H' s' => q H' s'⟩
      · have e : isBareP ws (.tuple ds) = false := by
          have h1 : xs.length ≠ 1 := fun z => h1 (decide_eq_true (by rw [z]; rfl))
          match ds, hl with
          | [], _ => rfl
          | [_], hl => exact absurd hl h1
          | _ :: _ :: _, _ => rfl
        have := q H (Same.refl H)
        rw [e] at this
        exact this
    · have e : isBareP ws d = false := by cases d <;> first | rfl | exact absurd rfl hd
      have := q H (Same.refl H)
      rw [e] at this
      exact this
theorem sc_is_named : FnScope ["value", "words"] ["value", "words"] (defScope s_is_named) := ⟨rfl, rfl, rfl, by decide +kernel, rfl, by decide +kernel, by decide +kernel⟩
theorem ok_is_named {f : Addr} {fd : FuncData} (F : Fun K "_is_named" "_is_named" s_is_named f fd) (T : Txt K mg lt0 lt1 lt2 lt3 lt4 t0 t1 t2 t3 t4 t5 t6 t7 t8 tF tO dC) {f1 : Addr} {fd1 : FuncData} (F_is_word : Fun K "_is_word" "_is_word" s_is_word f1 fd1) (b_is_word : Binds K fd1 ["value", "words"] []) (g_is_word : mg "_is_word" = some (.ref f1)) (G_is_word : FnOk P w K mg base CX0 1 f1 fd1 ["value", "words"] (spChkW K isWordP)) {f2 : Addr} {fd2 : FuncData} (F_is_name : Fun K "is_name" "is_name" s_is_name f2 fd2) (b_is_name : Binds K fd2 ["value"] []) (g_is_name : mg "is_name" = some (.ref f2)) (G_is_name : FnOk P w K mg base CX0 1 f2 fd2 ["value"] (spChk K isNameP)) : FnOk P w K mg base CX0 2 f fd ["value", "words"] (spChkW K isNamedP) := by
  refine F.ok sc_is_named (fun vs H Q E h => ?_) (fun cdv A outer s H vs Q E hr h => ?_)
  · obtain ⟨x, d, a, ws, rfl, _⟩ := h
    rfl
  · obtain ⟨x, d, a, ws, rfl, hv, hw, q⟩ := h
    refine ⟨_, (pss_cons (ps_if (PW.pt (pw_or (pt_not (pt_val (pe_callB call_isi (by rfl) T.m_isinstance (by decide +kernel) (pa_cons (pv 0) (pa_cons (pe_bltn (v := .ty "tuple") (u := .type "tuple") (by rfl) T.m_tuple (by decide +kernel) rfl) pa_nil))))) (pw_or1 (pt_cmpR op_ne (pe_callB call_len_seq (by rfl) T.m_len PySem.boot_len (pa_cons (pv 0) pa_nil)) pe_int (nomark _))))) 
          (pss_one (ps_ret pe_bl)) pss_nil) 
        (pss_one (ps_ret (pe_and (pe_call G_is_word hr (by rfl) g_is_word F_is_word.kp b_is_word .nil pass0 (pa_cons (pe_ix ix_tup (pv 0) pe_int (fun _ _ => rfl)) (pa_cons (pv 1) pa_nil))) (pe_one (pe_call G_is_name hr (by rfl) g_is_name F_is_name.kp b_is_name .nil pass0 (pa_cons (pe_ix ix_tup (pv 0) pe_int (fun _ _ => rfl)) pa_nil))))))), ?_⟩
    cases hd : isTup d with
    | false =>
      have e : isNamedP ws d = false := by cases d <;> first | rfl | cases hd
      have := q H (Same.refl H)
      rw [e] at this
      exact ⟨_, rfl, _, _, _, _, false, rfl, .ty "tuple", hv.ty, hd ▸ isi_tup d, _, rfl, iteT (iteT this)⟩
    | true =>
      obtain ⟨ds, rfl⟩ : ∃ ds, d = .tuple ds := by cases d <;> first | exact ⟨_, rfl⟩ | cases hd
      obtain ⟨b, xs, rfl, hs, ha, hl, h1000, hget⟩ := hv.tup
      refine ⟨_, rfl, _, _, _, _, true, rfl, .ty "tuple", hv.ty, isi_tup _, _, rfl, iteF ⟨_, rfl, b, xs, rfl, .inr hs, rfl, _, rfl, ite2 (fun h1 => ?_) (fun h1 => ?_)⟩⟩
      · have e : isNamedP ws (.tuple ds) = false := by
          have h1 : xs.length ≠ 2 := fun z => by
            rw [z] at h1
            exact absurd h1 (by decide)
          match ds, hl with
          | [], _ => rfl
          | [_], _ => rfl
          | [_, _], hl => exact absurd hl h1
          | _ :: _ :: _ :: _, _ => rfl
        have := q H (Same.refl H)
        rw [e] at this
        exact this
      · have h1 : xs.length = 2 := by
          by_cases z : xs.length = 2
          · exact z
          · exfalso
            refine h1 ?_
            show (!decide (V.int (xs.length : Int) = V.int 2)) = true
            rw [decide_eq_false (fun k => z (by have := V.int.inj k; omega))]
            rfl
        obtain ⟨e, g, rfl⟩ : ∃ e g, ds = [e, g] := by
          match ds, hl with
          | [e, g], _ => exact ⟨e, g, rfl⟩
          | [], hl => rw [h1] at hl; cases hl
          | [_], hl => rw [h1] at hl; cases hl
          | _ :: _ :: _ :: _, hl => rw [h1] at hl; cases hl
        obtain ⟨v, hx, hve⟩ := hget 0 e rfl
        obtain ⟨v2, hx2, hve2⟩ := hget 1 g rfl
        refine ⟨_, rfl, b, xs, _, _, rfl, rfl, hs, atI_nat hx, _, rfl, v, e, a, ws, rfl, hve, hw, fun H' s' => ⟨_, rfl, ite2 (fun h2 => ?_) (fun h2 => ?_)⟩⟩
        · refine ⟨_, rfl, b, xs, _, _, rfl, rfl, Same.seqT s' hs, atI_nat hx2, v2, g, rfl, hve2.same s', fun H'' s'' => ?_⟩
          have := q H'' (s'.trans s'')
          have e : isNamedP ws (.tuple [e, g]) = isNameP g := by
            show (isWordP ws e && isNameP g) = _
            rw [h2, Bool.true_and]
          rw [e] at this
          exact this
        · have := q H' s'
          have e : isNamedP ws (.tuple [e, g]) = false := by
            show (isWordP ws e && isNameP g) = _
            rw [(by simpa using h2 : isWordP ws e = false), Bool.false_and]
          rw [e] at this
          exact this
theorem bf {b : Bool} (h : ¬ b = true) : b = false := by
  cases b with
  | true => exact absurd rfl h
  | false => rfl
theorem word_str {ws : List Str} {d : PyData} (h : isWordP ws d = true) : ∃ z, d = .str z := by
  cases d <;> first | exact ⟨_, rfl⟩ | cases h
theorem bare_head {ws : List Str} {d : PyData} (h : isBareP ws d = true) : ∃ z r, d = .tuple (.str z :: r) := by
  match d, h with
  | .tuple [e], h =>
    obtain ⟨z, rfl⟩ := word_str (ws := ws) (d := e) h
    exact ⟨z, [], rfl⟩
theorem named_head {ws : List Str} {d : PyData} (h : isNamedP ws d = true) : ∃ z r, d = .tuple (.str z :: r) := by
  match d, h with
  | .tuple [e, g], h =>
    obtain ⟨z, rfl⟩ := word_str (ws := ws) (d := e) (Bool.and_eq_true_iff.mp h).1
    exact ⟨z, [g], rfl⟩
theorem step_head {d : PyData} (h : isStepP d = true) : ∃ z r, d = .tuple (.str z :: r) := by
  unfold isStepP at h
  rcases Bool.or_eq_true_iff.mp h with h | h
  · exact bare_head h
  · exact named_head h
def isInt (n lo hi : Int) : Bool := decide (lo ≤ n) && decide (n ≤ hi)
def spIsInt (K : PySem.W.Frag) : Sp := fun vs H Q _ => ∃ (x : V) (lo hi : Int), vs = [x, .int lo, .int hi] ∧ ((∃ n : Int, x = .int n ∧ Q (.bl (isInt n lo hi)) H) ∨
  (∃ T : String, TyX K H x (.type T) ∧ (kitB T "int" = some false ∨ (kitB T "int" = some true ∧ kitB T "bool" = some true)) ∧ Q (.bl false) H))
theorem sc_is_integer : FnScope ["value", "lowest", "highest"] ["value", "lowest", "highest"] (defScope s_is_integer) := ⟨rfl, rfl, rfl, by decide +kernel, rfl, by decide +kernel, by decide +kernel⟩
theorem ok_is_int {f : Addr} {fd : FuncData} (F : Fun K "is_integer" "is_integer" s_is_integer f fd) (T : Txt K mg lt0 lt1 lt2 lt3 lt4 t0 t1 t2 t3 t4 t5 t6 t7 t8 tF tO dC) : FnOk P w K mg base CX0 1 f fd ["value", "lowest", "highest"] (spIsInt K) := by
  refine F.ok sc_is_integer (fun vs H Q E h => ?_) (fun cdv A outer s H vs Q E hr h => ?_)
  · obtain ⟨x, lo, hi, rfl, _⟩ := h
    rfl
  · obtain ⟨x, lo, hi, rfl, h⟩ := h
    refine ⟨_, (pss_cons (ps_if (PW.pt (pw_or (pt_not (pt_val (pe_callB call_isi (by rfl) T.m_isinstance (by decide +kernel) (pa_cons (pv 0) (pa_cons (pe_bltn (v := .ty "int") (u := .type "int") (by rfl) T.m_int (by decide +kernel) rfl) pa_nil))))) (pw_or1 (pt_val (pe_callB call_isi (by rfl) T.m_isinstance (by decide +kernel) (pa_cons (pv 0) (pa_cons (pe_bltn (v := .ty "bool") (u := .type "bool") (by rfl) T.m_bool (by decide +kernel) rfl) pa_nil))))))) 
      (pss_one (ps_ret pe_bl)) pss_nil) 
    (pss_one (ps_ret (pe_chain op_le op_le (pv 1) (pv 0) (pv 2))))), ?_⟩
    rcases h with ⟨n, rfl, q⟩ | ⟨t, hx, ht, q⟩
    · refine ⟨_, rfl, _, _, _, _, true, rfl, .ty "int", .base (.int n), kit_ty (by decide +kernel), _, rfl, iteF ⟨_, rfl, _, _, _, _, false, rfl, .ty "bool", .base (.int n), kit_ty (by decide +kernel), _, rfl, iteF ?_⟩⟩
      refine ⟨_, rfl, _, rfl, _, _, rfl, rfl, _, rfl, ite2 (fun h1 => ⟨_, rfl, _, _, rfl, rfl, ?_⟩) (fun h1 => ?_)⟩
      · have e : isInt n lo hi = decide (n ≤ hi) := by
          have h1' : decide (lo ≤ n) = true := h1
          unfold isInt
          rw [h1', Bool.true_and]
        rw [e] at q
        exact q
      · have e : isInt n lo hi = false := by
          have h1' : decide (lo ≤ n) = false := by simpa using h1
          unfold isInt
          rw [h1', Bool.false_and]
        rw [e] at q
        exact q
    · rcases ht with ht | ⟨ht, hb⟩
      · exact ⟨_, rfl, _, _, _, _, false, rfl, .ty "int", hx, kit_ty ht, _, rfl, iteT (iteT q)⟩
      · exact ⟨_, rfl, _, _, _, _, true, rfl, .ty "int", hx, kit_ty ht, _, rfl, iteF ⟨_, rfl, _, _, _, _, true, rfl, .ty "bool", hx, kit_ty hb, _, rfl, iteT q⟩⟩
end
section
variable {P : Program} {w : World} {K : PySem.W.Frag} {mg : Str → Option Value} {base : Heap} {lt0 lt1 lt2 lt3 lt4 : Tok} {t0 t1 t2 t3 t4 t5 t6 t7 t8 tF tO dC : Addr}
theorem sc_is_way_item : FnScope ["value"] ["value"] (defScope s_is_way_item) := ⟨rfl, rfl, rfl, by decide +kernel, rfl, by decide +kernel, by decide +kernel⟩
theorem ok_is_way_item {f : Addr} {fd : FuncData} (F : Fun K "is_way_item" "is_way_item" s_is_way_item f fd) (T : Txt K mg lt0 lt1 lt2 lt3 lt4 t0 t1 t2 t3 t4 t5 t6 t7 t8 tF tO dC) {f1 : Addr} {fd1 : FuncData} (F_is_bare : Fun K "_is_bare" "_is_bare" s_is_bare f1 fd1) (b_is_bare : Binds K fd1 ["value", "words"] []) (g_is_bare : mg "_is_bare" = some (.ref f1)) (G_is_bare : FnOk P w K mg base CX0 2 f1 fd1 ["value", "words"] (spChkW K isBareP)) {f2 : Addr} {fd2 : FuncData} (F_is_named : Fun K "_is_named" "_is_named" s_is_named f2 fd2) (b_is_named : Binds K fd2 ["value", "words"] []) (g_is_named : mg "_is_named" = some (.ref f2)) (G_is_named : FnOk P w K mg base CX0 2 f2 fd2 ["value", "words"] (spChkW K isNamedP)) : FnOk P w K mg base CX0 3 f fd ["value"] (spChk K isWayItemP) := by
  refine F.ok sc_is_way_item (fun vs H Q E h => ?_) (fun cdv A outer s H vs Q E hr h => ?_)
  · obtain ⟨x, d, rfl, _⟩ := h
    rfl
  · obtain ⟨x, d, rfl, hv, q⟩ := h
    refine ⟨_, (pss_one (ps_ret (pe_or (pe_call G_is_bare hr (by rfl) g_is_bare F_is_bare.kp b_is_bare .nil pass0 (pa_cons (pv 0) (pa_cons (pe_glob (v := .ref t1) rfl T.c_BARE_ITEMS rfl) pa_nil))) (pe_one (pe_call G_is_named hr (by rfl) g_is_named F_is_named.kp b_is_named .nil pass0 (pa_cons (pv 0) (pa_cons (pe_glob (v := .ref t2) rfl T.c_NAMED_ITEMS rfl) pa_nil))))))), ?_⟩
    refine ⟨_, rfl, _, d, t1, wBare, rfl, hv, T.w1 _, fun H' s' => ⟨_, rfl, ite2 (fun h1 => ?_) (fun h1 => ⟨_, rfl, _, d, t2, wNamed, rfl, hv.same s', T.w2 _, fun H'' s'' => ?_⟩)⟩⟩
    · have := q H' s'
      rw [(by unfold isWayItemP; rw [h1]; rfl : isWayItemP d = true)] at this
      exact this
    · have := q H'' (s'.trans s'')
      rw [(by unfold isWayItemP; rw [bf h1, Bool.false_or] : isWayItemP d = isNamedP wNamed d)] at this
      exact this
/-- a way out that is not too long -/
def wayLen : PyData → Bool
  | .tuple ds => decide (ds.length ≤ 4)
  | _ => false
/-- an ask but for the items of its way out -/
def isHeadP : PyData → Bool
  | .tuple [w, m, o] => isWordP wAsk w && (isNameP m && wayLen o)
  | _ => false
theorem ask_split {d : PyData} (h : isHeadP d = true) : ∃ w m os, d = .tuple [w, m, .tuple os] ∧ os.length ≤ 4 ∧ isAskP d = os.all isWayItemP := by
  match d, h with
  | .tuple [w, m, o], h =>
    have h1 : (isWordP wAsk w && (isNameP m && wayLen o)) = true := h
    rw [Bool.and_eq_true, Bool.and_eq_true] at h1
    obtain ⟨h1, h2, h3⟩ := h1
    cases o with
    | tuple os =>
      have h4 : os.length ≤ 4 := of_decide_eq_true h3
      refine ⟨w, m, os, rfl, h4, ?_⟩
      show (isWordP wAsk w && (isNameP m && (decide (os.length ≤ 4) && os.all isWayItemP))) = _
      rw [h1, h2, decide_eq_true h4]
      rfl
    | _ => cases h3
theorem ask_head_of {d : PyData} (h : isHeadP d = false) : isAskP d = false := by
  match d, h with
  | .tuple [w, m, .tuple os], h =>
    have h1 : (isWordP wAsk w && (isNameP m && decide (os.length ≤ 4))) = false := h
    show (isWordP wAsk w && (isNameP m && (decide (os.length ≤ 4) && os.all isWayItemP))) = false
    rw [← Bool.and_assoc, ← Bool.and_assoc, Bool.and_assoc (isWordP wAsk w), h1, Bool.false_and]
  | .tuple [w, m, .none], _ => show (_ && (_ && false)) = false; rw [Bool.and_false, Bool.and_false]
  | .tuple [w, m, .bool _], _ => show (_ && (_ && false)) = false; rw [Bool.and_false, Bool.and_false]
  | .tuple [w, m, .int _], _ => show (_ && (_ && false)) = false; rw [Bool.and_false, Bool.and_false]
  | .tuple [w, m, .str _], _ => show (_ && (_ && false)) = false; rw [Bool.and_false, Bool.and_false]
  | .tuple [w, m, .list _], _ => show (_ && (_ && false)) = false; rw [Bool.and_false, Bool.and_false]
  | .tuple [w, m, .dict _], _ => show (_ && (_ && false)) = false; rw [Bool.and_false, Bool.and_false]
  | .tuple [], _ => rfl
  | .tuple [_], _ => rfl
  | .tuple [_, _], _ => rfl
  | .tuple (_ :: _ :: _ :: _ :: _), _ => rfl
  | .none, _ => rfl
  | .bool _, _ => rfl
  | .int _, _ => rfl
  | .str _, _ => rfl
  | .list _, _ => rfl
  | .dict _, _ => rfl
theorem sc_is_ask_head : FnScope ["value", "word", "mark", "way_out"] ["value"] (defScope s_is_ask_head) := ⟨rfl, rfl, rfl, by decide +kernel, rfl, by decide +kernel, by decide +kernel⟩
theorem ok_is_ask_head {f : Addr} {fd : FuncData} (F : Fun K "is_ask_head" "is_ask_head" s_is_ask_head f fd) (T : Txt K mg lt0 lt1 lt2 lt3 lt4 t0 t1 t2 t3 t4 t5 t6 t7 t8 tF tO dC) {f1 : Addr} {fd1 : FuncData} (F_is_word : Fun K "_is_word" "_is_word" s_is_word f1 fd1) (b_is_word : Binds K fd1 ["value", "words"] []) (g_is_word : mg "_is_word" = some (.ref f1)) (G_is_word : FnOk P w K mg base CX0 1 f1 fd1 ["value", "words"] (spChkW K isWordP)) {f2 : Addr} {fd2 : FuncData} (F_is_name : Fun K "is_name" "is_name" s_is_name f2 fd2) (b_is_name : Binds K fd2 ["value"] []) (g_is_name : mg "is_name" = some (.ref f2)) (G_is_name : FnOk P w K mg base CX0 1 f2 fd2 ["value"] (spChk K isNameP)) : FnOk P w K mg base CX0 2 f fd ["value"] (spChk K isHeadP) := by
  refine F.ok sc_is_ask_head (fun vs H Q E h => ?_) (fun cdv A outer s H vs Q E hr h => ?_)
  · obtain ⟨x, d, rfl, _⟩ := h
    rfl
  · obtain ⟨x, d, rfl, hv, q⟩ := h
    refine ⟨_, (pss_cons (ps_if (PW.pt (pw_or (pt_not (pt_val (pe_callB call_isi (by rfl) T.m_isinstance (by decide +kernel) (pa_cons (pv 0) (pa_cons (pe_bltn (v := .ty "tuple") (u := .type "tuple") (by rfl) T.m_tuple (by decide +kernel) rfl) pa_nil))))) (pw_or1 (pt_cmpR op_ne (pe_callB call_len_seq (by rfl) T.m_len PySem.boot_len (pa_cons (pv 0) pa_nil)) pe_int (nomark _)))))
          (pss_one (ps_ret pe_bl)) pss_nil)
        (pss_cons (ps_asg (pv 0) (pg_tup rfl (pgs_cons (pg_name (i := 1) sc_is_ask_head.nd rfl (.inl rfl)) (pgs_cons (pg_name (i := 2) sc_is_ask_head.nd rfl (.inl rfl)) (pgs_cons (pg_name (i := 3) sc_is_ask_head.nd rfl (.inl rfl)) pgs_nil)))))
        (pss_cons (ps_if (PW.pt (pw_or (pt_not (pt_val (pe_call G_is_word hr (by rfl) g_is_word F_is_word.kp b_is_word .nil pass0 (pa_cons (pv 1) (pa_cons (pe_glob (v := .ref t3) rfl T.c_ASKS rfl) pa_nil))))) (pw_or1 (pt_not (pt_val (pe_call G_is_name hr (by rfl) g_is_name F_is_name.kp b_is_name .nil pass0 (pa_cons (pv 2) pa_nil)))))))
          (pss_one (ps_ret pe_bl)) pss_nil)
        (pss_one (ps_ret (pe_and (pe_callB call_isi (by rfl) T.m_isinstance (by decide +kernel) (pa_cons (pv 3) (pa_cons (pe_bltn (v := .ty "tuple") (u := .type "tuple") (by rfl) T.m_tuple (by decide +kernel) rfl) pa_nil))) (pe_one (pe_cmpR op_le (pe_callB call_len_seq (by rfl) T.m_len PySem.boot_len (pa_cons (pv 3) pa_nil)) (pe_glob (v := .int 4) rfl T.c_MOST_IN_WAY_OUT ⟨_, rfl⟩) (nomark _))))))))), ?_⟩
    cases hd : isTup d with
    | false =>
      have e : isHeadP d = false := by cases d <;> first | rfl | cases hd
      have := q H (Same.refl H)
      rw [e] at this
      exact ⟨_, rfl, _, _, _, _, false, rfl, .ty "tuple", hv.ty, hd ▸ isi_tup d, _, rfl, iteT (iteT this)⟩
    | true =>
      obtain ⟨ds, rfl⟩ : ∃ ds, d = .tuple ds := by cases d <;> first | exact ⟨_, rfl⟩ | cases hd
      obtain ⟨b, xs, rfl, hs, ha, hl, h1000, hget⟩ := hv.tup
      refine ⟨_, rfl, _, _, _, _, true, rfl, .ty "tuple", hv.ty, isi_tup _, _, rfl, iteF ⟨_, rfl, b, xs, rfl, .inr hs, rfl, _, rfl, ite2 (fun h1 => ?_) (fun h1 => ?_)⟩⟩
      · have e : isHeadP (.tuple ds) = false := by
          have h1 : xs.length ≠ 3 := fun z => by
            rw [z] at h1
            exact absurd h1 (by decide)
          match ds, hl with
          | [], _ => rfl
          | [_], _ => rfl
          | [_, _], _ => rfl
          | [_, _, _], hl => exact absurd hl h1
          | _ :: _ :: _ :: _ :: _, _ => rfl
        have := q H (Same.refl H)
        rw [e] at this
        exact this
      · have h1 : xs.length = 3 := by
          by_cases z : xs.length = 3
          · exact z
          · exfalso
            refine h1 ?_
            show (!decide (V.int (xs.length : Int) = V.int 3)) = true
            rw [decide_eq_false (fun k => z (by have := V.int.inj k; omega))]
            rfl
        obtain ⟨e1, e2, e3, rfl⟩ : ∃ e1 e2 e3, ds = [e1, e2, e3] := by
          match ds, hl with
          | [e1, e2, e3], _ => exact ⟨e1, e2, e3, rfl⟩
          | [], hl => rw [h1] at hl; cases hl
          | [_], hl => rw [h1] at hl; cases hl
          | [_, _], hl => rw [h1] at hl; cases hl
          | _ :: _ :: _ :: _ :: _, hl => rw [h1] at hl; simp at hl
        obtain ⟨v1, hx1, hv1⟩ := hget 0 e1 rfl
        obtain ⟨v2, hx2, hv2⟩ := hget 1 e2 rfl
        obtain ⟨v3, hx3, hv3⟩ := hget 2 e3 rfl
        have ex : xs = [v1, v2, v3] := by
          match xs, h1, hx1, hx2, hx3 with
          | [a1, a2, a3], _, hx1, hx2, hx3 =>
            cases hx1
            cases hx2
            cases hx3
            rfl
        subst ex
        refine ⟨_, rfl, b, _, rfl, hs, rfl, _, _, rfl, _, _, rfl, _, [], rfl, rfl, ?_⟩
        refine ⟨_, rfl, _, e1, t3, wAsk, rfl, hv1, T.w3 _, fun H' s' => ⟨_, rfl, ite2 (fun g1 => ?_) (fun g1 => ?_)⟩⟩
        · have := q H' s'
          rw [(by show (isWordP wAsk e1 && (isNameP e2 && wayLen e3)) = false; rw [(by simpa using g1 : isWordP wAsk e1 = false)]; rfl : isHeadP (.tuple [e1, e2, e3]) = false)] at this
          exact this
        · have g1 : isWordP wAsk e1 = true := by simpa using g1
          refine ⟨_, rfl, _, e2, rfl, hv2.same s', fun H'' s'' => ⟨_, rfl, ite2 (fun g2 => ?_) (fun g2 => ?_)⟩⟩
          · have := q H'' (s'.trans s'')
            rw [(by show (isWordP wAsk e1 && (isNameP e2 && wayLen e3)) = false; rw [g1, (by simpa using g2 : isNameP e2 = false)]; rfl : isHeadP (.tuple [e1, e2, e3]) = false)] at this
            exact this
          · have g2 : isNameP e2 = true := by simpa using g2
            have hv4 := hv3.same (s'.trans s'')
            have e : isHeadP (.tuple [e1, e2, e3]) = wayLen e3 := by
              show (isWordP wAsk e1 && (isNameP e2 && wayLen e3)) = _
              rw [g1, g2]
              rfl
            have := q H'' (s'.trans s'')
            rw [e] at this
            cases hd3 : isTup e3 with
            | false =>
              have e4 : wayLen e3 = false := by cases e3 <;> first | rfl | cases hd3
              rw [e4] at this
              exact ⟨_, rfl, _, _, _, _, false, rfl, .ty "tuple", hv4.ty, hd3 ▸ isi_tup e3, _, rfl, iteF this⟩
            | true =>
              obtain ⟨os, rfl⟩ : ∃ os, e3 = .tuple os := by cases e3 <;> first | exact ⟨_, rfl⟩ | cases hd3
              obtain ⟨b3, zs, rfl, hs3, _, hl3, _, _⟩ := hv4.tup
              refine ⟨_, rfl, _, _, _, _, true, rfl, .ty "tuple", hv4.ty, isi_tup _, _, rfl, iteT ⟨_, rfl, b3, zs, rfl, .inr hs3, _, _, rfl, rfl, ?_⟩⟩
              have e5 : decide ((zs.length : Int) ≤ 4) = wayLen (.tuple os) := by
                show _ = decide (os.length ≤ 4)
                rw [Bool.eq_iff_iff, decide_eq_true_iff, decide_eq_true_iff]
                omega
              show Q (V.bl (decide ((zs.length : Int) ≤ 4))) _
              rw [e5]
              exact this
theorem sc_is_ask : FnScope ["value", "item"] ["value"] (defScope s_is_ask) := ⟨rfl, rfl, rfl, by decide +kernel, rfl, by decide +kernel, by decide +kernel⟩
theorem ok_is_ask {f : Addr} {fd : FuncData} (F : Fun K "_is_ask" "_is_ask" s_is_ask f fd) (T : Txt K mg lt0 lt1 lt2 lt3 lt4 t0 t1 t2 t3 t4 t5 t6 t7 t8 tF tO dC) {f3 : Addr} {fd3 : FuncData} (F_is_ask_head : Fun K "is_ask_head" "is_ask_head" s_is_ask_head f3 fd3) (b_is_ask_head : Binds K fd3 ["value"] []) (g_is_ask_head : mg "is_ask_head" = some (.ref f3)) (G_is_ask_head : FnOk P w K mg base CX0 2 f3 fd3 ["value"] (spChk K isHeadP)) {f1 : Addr} {fd1 : FuncData} (F_is_way_item : Fun K "is_way_item" "is_way_item" s_is_way_item f1 fd1) (b_is_way_item : Binds K fd1 ["value"] []) (g_is_way_item : mg "is_way_item" = some (.ref f1)) (G_is_way_item : FnOk P w K mg base CX0 3 f1 fd1 ["value"] (spChk K isWayItemP)) : FnOk P w K mg base CX0 5 f fd ["value"] (spChk K isAskP) := by
  refine F.ok sc_is_ask (fun vs H Q E h => ?_) (fun cdv A outer s H vs Q E hr h => ?_)
  · obtain ⟨x, d, rfl, _⟩ := h
    rfl
  · obtain ⟨x, d, rfl, hv0, q0⟩ := h
    refine ⟨_, (pss_one (ps_ret (pe_and (pe_call G_is_ask_head (hr.mono (by decide)) (by rfl) g_is_ask_head F_is_ask_head.kp b_is_ask_head .nil pass0 (pa_cons (pv 0) pa_nil)) (pe_one (pe_callB (cr_all rfl) (by rfl) T.m_all (by decide +kernel) (pa_cons (pe_lc (own := [("item", 1)]) (g := gName 1) rfl sc_is_ask.nd (pi_tup (pe_ix ix_tup (pv 0) pe_int (fun _ _ => rfl))) (blkOk_by (N := ["value", "item"]) (sc := defScope s_is_ask) (by decide +kernel)) (fun _ _ _ _ _ => pg_name (i := 1) sc_is_ask.nd rfl (.inl rfl)) (fun _ _ _ _ _ => pts_nil) (fun _ _ _ _ _ => (pe_call G_is_way_item (hr.mono (by decide)) (by rfl) g_is_way_item F_is_way_item.kp b_is_way_item .nil pass0 (pa_cons (pv 1) pa_nil)))) pa_nil)))))), ?_⟩
    refine ⟨_, rfl, _, d, rfl, hv0, fun H0 s0 => ⟨_, rfl, ite2 (fun g1 => ?_) (fun g1 => ?_)⟩⟩
    · obtain ⟨w1, m1, ds, rfl, h4, eA⟩ := ask_split g1
      obtain ⟨b0, xs0, rfl, hs0, _, hl0, _, hget0⟩ := (hv0.same s0).tup
      obtain ⟨v3, hx3, hv⟩ := hget0 2 (.tuple ds) rfl
      obtain ⟨b, xs, rfl, hs, ha, hl, h1000, hget⟩ := hv.tup
      have q : ∀ H', Same H0 H' → Q (V.bl (ds.all isWayItemP)) H' := fun H' s' => by
        have := q0 H' (s0.trans s')
        rw [eA] at this
        exact this
      refine ⟨_, rfl, b0, xs0, _, _, rfl, rfl, hs0, atI_nat (j := 2) hx3, b, rfl, ⟨_, hs⟩, fun D hD => ?_⟩
      refine lc_tup (xs := xs) (fun i H' => Same H0 H' ∧ H' D = some (.lst (((ds.take i).map isWayItemP).map V.bl))) ⟨same_upd hD, upd_same⟩ (fun i H' _ h => Same.seqT h.1 hs) ?_ ?_
      · rintro i y H1 hy ⟨s1, h1D⟩
        have hi : i < ds.length := by
          have := (List.getElem?_eq_some_iff.mp hy).1
          omega
        obtain ⟨v, hxv, hve⟩ := hget i ds[i] (List.getElem?_eq_getElem hi)
        have ey : y = v := Option.some.inj (hy.symm.trans hxv)
        subst ey
        refine ⟨rfl, yes_then ?_⟩
        refine ⟨_, rfl, _, ds[i], rfl, hve.same s1, fun H2 s2 => ⟨_, s2 _ _ h1D, ?_, same_st (s1.trans s2) hD, ?_⟩⟩
        · rw [List.length_map, List.length_map, List.length_take]
          exact Nat.lt_of_le_of_lt (Nat.min_le_right _ _) (small1000 h1000)
        · rw [upd_same, List.take_add_one, List.getElem?_eq_getElem hi, List.map_append, List.map_append]
          rfl
      · rintro H1 ⟨s1, h1D⟩
        refine ⟨D, ds.map isWayItemP, rfl, .inl (.inl (by rw [h1D, List.take_of_length_le (by omega)])), ?_⟩
        have e : ds.all isWayItemP = (ds.map isWayItemP).all id := by
          rw [List.all_map]
          rfl
        have := q H1 s1
        rw [e] at this
        exact this
    · have := q0 H0 s0
      rw [ask_head_of (by simpa using g1)] at this
      exact this
theorem sc_is_item : FnScope ["value"] ["value"] (defScope s_is_item) := ⟨rfl, rfl, rfl, by decide +kernel, rfl, by decide +kernel, by decide +kernel⟩
theorem ok_is_item {f : Addr} {fd : FuncData} (F : Fun K "is_item" "is_item" s_is_item f fd) (T : Txt K mg lt0 lt1 lt2 lt3 lt4 t0 t1 t2 t3 t4 t5 t6 t7 t8 tF tO dC) {f1 : Addr} {fd1 : FuncData} (F_is_bare : Fun K "_is_bare" "_is_bare" s_is_bare f1 fd1) (b_is_bare : Binds K fd1 ["value", "words"] []) (g_is_bare : mg "_is_bare" = some (.ref f1)) (G_is_bare : FnOk P w K mg base CX0 2 f1 fd1 ["value", "words"] (spChkW K isBareP)) {f2 : Addr} {fd2 : FuncData} (F_is_way_item : Fun K "is_way_item" "is_way_item" s_is_way_item f2 fd2) (b_is_way_item : Binds K fd2 ["value"] []) (g_is_way_item : mg "is_way_item" = some (.ref f2)) (G_is_way_item : FnOk P w K mg base CX0 3 f2 fd2 ["value"] (spChk K isWayItemP)) {f3 : Addr} {fd3 : FuncData} (F_is_ask : Fun K "_is_ask" "_is_ask" s_is_ask f3 fd3) (b_is_ask : Binds K fd3 ["value"] []) (g_is_ask : mg "_is_ask" = some (.ref f3)) (G_is_ask : FnOk P w K mg base CX0 5 f3 fd3 ["value"] (spChk K isAskP)) : FnOk P w K mg base CX0 6 f fd ["value"] (spChk K isItemP) := by
  refine F.ok sc_is_item (fun vs H Q E h => ?_) (fun cdv A outer s H vs Q E hr h => ?_)
  · obtain ⟨x, d, rfl, _⟩ := h
    rfl
  · obtain ⟨x, d, rfl, hv, q⟩ := h
    refine ⟨_, (pss_one (ps_ret (pe_or (pe_call G_is_bare (hr.mono (by decide)) (by rfl) g_is_bare F_is_bare.kp b_is_bare .nil pass0 (pa_cons (pv 0) (pa_cons (pe_glob (v := .ref t0) rfl T.c_OPENERS rfl) pa_nil))) (pe_or (pe_call G_is_way_item (hr.mono (by decide)) (by rfl) g_is_way_item F_is_way_item.kp b_is_way_item .nil pass0 (pa_cons (pv 0) pa_nil)) (pe_one (pe_call G_is_ask hr (by rfl) g_is_ask F_is_ask.kp b_is_ask .nil pass0 (pa_cons (pv 0) pa_nil))))))), ?_⟩
    refine ⟨_, rfl, _, d, t0, wOpen, rfl, hv, T.w0 _, fun H' s' => ⟨_, rfl, ite2 (fun h1 => ?_) (fun h1 => ⟨_, rfl, _, d, rfl, hv.same s', fun H'' s'' => ⟨_, rfl, ite2 (fun h2 => ?_) (fun h2 => ⟨_, rfl, _, d, rfl, hv.same (s'.trans s''), fun H3 s3 => ?_⟩)⟩⟩)⟩⟩
    · have := q H' s'
      rw [(by unfold isItemP; rw [h1]; rfl : isItemP d = true)] at this
      exact this
    · have := q H'' (s'.trans s'')
      rw [(by unfold isItemP; rw [bf h1, h2]; rfl : isItemP d = true)] at this
      exact this
    · have := q H3 ((s'.trans s'').trans s3)
      rw [(by unfold isItemP; rw [bf h1, bf h2]; rfl : isItemP d = isAskP d)] at this
      exact this
end
end K05

namespace K05
open PySem PySem.Spec PyProof.Rows StX L2 TL GG OO LY
/-- an item by its form: no ask, or an ask -/
def ItemD (d : PyData) : Prop := (∃ w r, d = .tuple (.str w :: r) ∧ w ≠ "ask" ∧ wayOf d = none) ∨ ∃ m o, d = .tuple [.str "ask", m, .tuple o]
theorem ItemD.way {d : PyData} (h : ItemD d) : (∃ w r, d = .tuple (.str w :: r) ∧ w ≠ "ask" ∧ way d = []) ∨ ∃ m o, d = .tuple [.str "ask", m, .tuple o] ∧ way d = o := by
  rcases h with ⟨w, r, e, hw, hn⟩ | ⟨m, o, e⟩
  · exact .inl ⟨w, r, e, hw, by unfold LY.way; rw [hn]; rfl⟩
  · subst e
    exact .inr ⟨m, o, rfl, rfl⟩
section
variable {P : Program} {w : World} {K : PySem.W.Frag} {mg : Str → Option Value} {base : Heap} {lt0 lt1 lt2 lt3 lt4 : Tok} {t0 t1 t2 t3 t4 t5 t6 t7 t8 tF tO dC : Addr}
theorem iteB {b c : Bool} {A B : Prop} (e : b = c) (h : if c = true then A else B) : if b = true then A else B := by
  rw [e]
  exact h
/-- three parts -/
theorem dp3 {H : Hp} {x : V} {d1 d2 d3 : PyData} (hd : Dp K H x (.tuple [d1, d2, d3])) : ∃ (a : Addr) (v1 v2 v3 : V), x = .ref a ∧ SqT K H a [v1, v2, v3] ∧ Dp K H v1 d1 ∧ Dp K H v2 d2 ∧ Dp K H v3 d3 := by
  cases hd with
  | tup hx ha =>
    cases ha with
    | cons p1 ha =>
      cases ha with
      | cons p2 ha =>
        cases ha with
        | cons p3 ha =>
          cases ha
          exact ⟨_, _, _, _, rfl, hx, p1, p2, p3⟩
def spWay (K : PySem.W.Frag) : Sp := fun vs H Q _ => ∃ (x : V) (d : PyData), vs = [x] ∧ Dp K H x d ∧ ItemD d ∧ ∀ H' y, Same H H' → Dp K H' y (.tuple (way d)) → Q y H'
theorem sc_way_out_of : FnScope ["part"] ["part"] (defScope s_way_out_of) := ⟨rfl, rfl, rfl, by decide +kernel, rfl, by decide +kernel, by decide +kernel⟩
theorem ok_way_out_of {f : Addr} {fd : FuncData} (F : Fun K "_way_out_of" "_way_out_of" s_way_out_of f fd) (T : Txt K mg lt0 lt1 lt2 lt3 lt4 t0 t1 t2 t3 t4 t5 t6 t7 t8 tF tO dC) : FnOk P w K mg base CX0 1 f fd ["part"] (spWay K) := by
  refine F.ok sc_way_out_of (fun vs H Q E h => ?_) (fun cdv A outer s H vs Q E hr h => ?_)
  · obtain ⟨x, d, rfl, _⟩ := h
    rfl
  · obtain ⟨x, d, rfl, hd, hi, q⟩ := h
    refine ⟨_, (pss_one (ps_ret (pe_ifExp (pt_cmpR op_eq (pe_ix ix_tup (pv 0) pe_int (fun _ _ => rfl)) pe_str (nomark _)) (pe_ix ix_tup (pv 0) pe_int (fun _ _ => rfl)) (pe_tup pa_nil)))), ?_⟩
    rcases hi.way with ⟨w0, r0, rfl, hw, e⟩ | ⟨m0, o0, rfl, e⟩
    · obtain ⟨a, xs, rfl, hs, hx⟩ := dp_head hd
      refine ⟨_, rfl, a, xs, _, _, rfl, rfl, hs, hx, rfl, _, rfl, iteB (c := false) (decide_eq_false fun z => hw (V.str.inj z)) (iteF ?_)⟩
      refine ⟨Nat.zero_le _, fun t ht => q _ _ (same_upd ht) ?_⟩
      rw [e]
      exact .tup (.inl (.inl upd_same)) .nil
    · obtain ⟨a, v1, v2, v3, rfl, hs, h1, h2, h3⟩ := dp3 hd
      cases h1
      refine ⟨_, rfl, a, _, _, _, rfl, rfl, hs, atI_nat (j := 0) rfl, rfl, _, rfl, iteB (c := true) (decide_eq_true rfl) (iteT ?_)⟩
      refine ⟨_, rfl, a, _, _, _, rfl, rfl, hs, atI_nat (j := 2) rfl, q H _ (Same.refl H) ?_⟩
      rw [e]
      exact h3
theorem spread_snoc (ds : List PyData) (d : PyData) : spread (ds ++ [d]) = spread ds ++ d :: way d := by
  unfold spread
  rw [List.flatMap_append]
  simp
def spSpread (K : PySem.W.Frag) : Sp := fun vs H Q _ => ∃ (x : V) (ds : List PyData), vs = [x] ∧ Dp K H x (.tuple ds) ∧ (∀ d ∈ ds, ItemD d) ∧ (spread ds).length ≤ 100 ∧ ∀ H' p ys, Same H H' → H' p = some (.lst ys) → DpAll K H' ys (spread ds) → Q (.ref p) H'
theorem sc_spread : FnScope ["parts", "placed", "part"] ["parts"] (defScope s_spread) := ⟨rfl, rfl, rfl, by decide +kernel, rfl, by decide +kernel, by decide +kernel⟩
theorem ok_spread {f : Addr} {fd : FuncData} (F : Fun K "_spread" "_spread" s_spread f fd) (T : Txt K mg lt0 lt1 lt2 lt3 lt4 t0 t1 t2 t3 t4 t5 t6 t7 t8 tF tO dC) {f1 : Addr} {fd1 : FuncData} (F_way_out_of : Fun K "_way_out_of" "_way_out_of" s_way_out_of f1 fd1) (b_way_out_of : Binds K fd1 ["part"] []) (g_way_out_of : mg "_way_out_of" = some (.ref f1)) (G_way_out_of : FnOk P w K mg base CX0 1 f1 fd1 ["part"] (spWay K)) : FnOk P w K mg base CX0 2 f fd ["parts"] (spSpread K) := by
  refine F.ok sc_spread (fun vs H Q E h => ?_) (fun cdv A outer s H vs Q E hr h => ?_)
  · obtain ⟨x, ds, rfl, _⟩ := h
    rfl
  · obtain ⟨x, ds, rfl, hd, hi, hlen, q⟩ := h
    refine ⟨_, (pss_cons (ps_set (i := 1) sc_spread.nd rfl (.inl rfl) (pe_lst pa_nil)) 
        (pss_cons (ps_for PassesOwn.never rfl (pi_tup (pv 0)) (pg_name (i := 2) sc_spread.nd rfl (.inl rfl)) 
          (pss_one (ps_set (i := 1) sc_spread.nd rfl (.inl rfl) (pe_lst (pa_star (pv 1) (pa_cons (pv 2) (pa_star (pe_call G_way_out_of hr (by rfl) g_way_out_of F_way_out_of.kp b_way_out_of .nil pass0 (pa_cons (pv 2) pa_nil)) pa_nil))))))) 
        (pss_one (ps_ret (pv 1))))), ?_⟩
    obtain ⟨b, xs, rfl, hs, ha⟩ : ∃ (b : Addr) (xs : List V), x = .ref b ∧ SqT K H b xs ∧ DpAll K H xs ds := by
      cases hd with
      | tup h1 h2 => exact ⟨_, _, rfl, h1, h2⟩
    have hl := dpAll_len ha
    refine ⟨Nat.zero_le _, fun p hp => ?_⟩
    have s0 : Same H (upd H p (.lst [])) := same_upd hp
    refine ⟨_, rfl, b, rfl, ⟨_, Same.seqT s0 hs⟩, for_it (walk_tup (xs := xs)) (fun i σ H' => Same H H' ∧ ∃ (l : Addr) (ys : List V) (y : Option V), σ = [some (.ref b), some (.ref l), y] ∧ H' l = some (.lst ys) ∧ DpAll K H' ys (spread (ds.take i))) ⟨s0, p, [], _, rfl, upd_same, .nil⟩ (fun i σ H' _ h => Same.seqT h.1 hs) ?_ ?_⟩
    · rintro i x σ _ H1 hi0 ⟨s1, l, ys, y, rfl, hl1, hy⟩ ⟨rfl, hx⟩
      have hid : i < ds.length := by omega
      have hdi : ds[i]? = some ds[i] := List.getElem?_eq_getElem hid
      have hdx := dp_same s1 _ _ (dpAll_at ha hx hdi)
      have htake : ds.take (i + 1) = ds.take i ++ [ds[i]] := by rw [List.take_add_one, hdi]; rfl
      refine ⟨_, rfl, l, ys, rfl, .inr (.inl (.inl hl1)), _, rfl, _, rfl, x, ds[i], rfl, hdx, hi _ (List.mem_of_getElem? hdi), fun H2 z s2 hz => ?_⟩
      obtain ⟨zb, zs, rfl, hzs, hza⟩ : ∃ (zb : Addr) (zs : List V), z = .ref zb ∧ SqT K H2 zb zs ∧ DpAll K H2 zs (way ds[i]) := by
        cases hz with
        | tup h1 h2 => exact ⟨_, _, rfl, h1, h2⟩
      have hall : DpAll K H2 (ys ++ x :: (zs ++ [])) (spread (ds.take (i + 1))) := by
        rw [htake, spread_snoc, List.append_nil]
        exact dpAll_app (dpAll_same s2 _ _ hy) (.cons (dp_same s2 _ _ hdx) hza)
      have hn : (ys ++ x :: (zs ++ [])).length ≤ 100 := by
        have e1 := dpAll_len hall
        have : (spread (ds.take (i + 1))).length ≤ (spread ds).length := by
          have : spread ds = spread (ds.take (i + 1)) ++ spread (ds.drop (i + 1)) := by
            unfold spread
            rw [← List.flatMap_append, List.take_append_drop]
          rw [this, List.length_append]
          omega
        omega
      refine ⟨zb, zs, rfl, .inl hzs, Nat.le_of_lt (small1000 (by omega)), fun l2 hl2 => ?_⟩
      exact ⟨(s1.trans s2).trans (same_upd hl2), l2, _, _, rfl, upd_same, dpAll_same (same_upd hl2) _ _ hall⟩
    · rintro σ H1 ⟨s1, l, ys, y, rfl, hl1, hy⟩
      rw [List.take_of_length_le (by omega)] at hy
      exact ⟨_, rfl, q _ _ _ s1 hl1 hy⟩
end
end K05

namespace K05
open PySem PySem.Spec PyProof.Rows StX L2 TL GG OO LY
/-- what the dict of changes tells -/
def chD (w : Str) : Option (Nat × Bool) :=
  if w = "hold" then some (0, true) else if w = "try" then some (0, true) else if w = "let" then some (0, false) else if w = "enter" then some (1, true) else if w = "leave" then some (1, false) else if w = "lock" then some (2, true) else if w = "unlock" then some (2, false) else none
def putS (s : St3) (c : Nat × Bool) : St3 := match c.1 with
  | 0 => (c.2, s.2)
  | 1 => (s.1, c.2, s.2.2)
  | _ => (s.1, s.2.1, c.2)
theorem stB_ch (s : St3) (w : Str) : stB s w = match chD w with
  | none => s
  | some c => putS s c := by
  unfold stB chD
  repeat (first | rfl | split)
theorem chD_lt {w : Str} {c : Nat × Bool} (h : chD w = some c) : c.1 < 3 := by
  unfold chD at h
  repeat (first | cases h; done | (cases h; decide) | split at h)
def v3 (s : St3) : List V := [.bl s.1, .bl s.2.1, .bl s.2.2]
structure Chg (K : PySem.W.Frag) (w : World) (dC : Addr) : Prop where
  kd : ∃ es n, KDict K w dC es n
  no : ∀ z, chD z = none → PySem.W.nsIn K dC z = some none
  yes : ∀ z i b, chD z = some (i, b) → ∃ t, PySem.W.nsIn K dC z = some (some (.ref t)) ∧ ∀ H, SqT K H t [.int (Int.ofNat i), .bl b]
section
variable {P : Program} {w : World} {K : PySem.W.Frag} {mg : Str → Option Value} {base : Heap} {lt0 lt1 lt2 lt3 lt4 : Tok} {t0 t1 t2 t3 t4 t5 t6 t7 t8 tF tO dC : Addr}
theorem slA0 {H : Hp} {a : Addr} {xs : List V} {lo hi : Option Int} {Q : VK} (hs : SqT K H a xs) (hq : ∀ H' b, Same H H' → SqT K H' b (cutV xs lo hi) → Q (.ref b) H') : rSlA K (.ref a) lo hi H Q :=
  ⟨a, xs, rfl, hs, fun ⟨h1, h2⟩ => hq H a (Same.refl H) (by unfold cutV; rw [h1, h2]; simpa using hs), fun _ p hp => hq _ p (same_upd hp) (.inl (.inl upd_same))⟩
theorem slN0 {σ : L2.St} {H : Hp} {a : Addr} {xs : List V} {lo : Option Int} {Q : VK} (hs : SqT K H a xs) (hq : ∀ H' b, Same H H' → SqT K H' b (cutV xs lo none) → Q (.ref b) H') : tNoPart σ H (fun u H3 => rSlA K (.ref a) lo u H3 Q) := slA0 hs hq
theorem cut3 {s : St3} {i : Nat} {b : Bool} (hi : i < 3) : cutV (v3 s) none (some (Int.ofNat i)) ++ V.bl b :: (cutV (v3 s) (some (Int.ofNat i + 1)) none ++ []) = v3 (putS s (i, b)) := by
  match i, hi with
  | 0, _ => rfl
  | 1, _ => rfl
  | 2, _ => rfl
def spStB (K : PySem.W.Frag) : Sp := fun vs H Q _ => ∃ (a : Addr) (s : St3) (z : Str), vs = [.ref a, .str z] ∧ SqT K H a (v3 s) ∧ ∀ H' b, Same H H' → SqT K H' b (v3 (stB s z)) → Q (.ref b) H'
theorem sc_standing_behind : FnScope ["standing", "word", "at", "told"] ["standing", "word"] (defScope s_standing_behind) := ⟨rfl, rfl, rfl, by decide +kernel, rfl, by decide +kernel, by decide +kernel⟩
theorem ok_standing_behind {f : Addr} {fd : FuncData} (F : Fun K "_standing_behind" "_standing_behind" s_standing_behind f fd) (T : Txt K mg lt0 lt1 lt2 lt3 lt4 t0 t1 t2 t3 t4 t5 t6 t7 t8 tF tO dC) (hC : Chg K w dC) : FnOk P w K mg base CX0 1 f fd ["standing", "word"] (spStB K) := by
  refine F.ok sc_standing_behind (fun vs H Q E h => ?_) (fun cdv A outer s H vs Q E hr h => ?_)
  · obtain ⟨a, s, z, rfl, _⟩ := h
    rfl
  · obtain ⟨a, s, z, rfl, hs, q⟩ := h
    obtain ⟨es, n, D⟩ := hC.kd
    refine ⟨_, (pss_cons (ps_if (pt_cmpR (op_notIn_kd D) (pv 1) (pe_glob (v := .ref dC) rfl T.c_CHANGES rfl) (by rfl)) 
          (pss_one (ps_ret (pv 0))) pss_nil) 
        (pss_cons (ps_asg (pe_ix ix_kdict (pe_glob (v := .ref dC) rfl T.c_CHANGES rfl) (pv 1) (fun _ _ => rfl)) (pg_tup rfl (pgs_cons (pg_name (i := 2) sc_standing_behind.nd rfl (.inl rfl)) (pgs_cons (pg_name (i := 3) sc_standing_behind.nd rfl (.inl rfl)) pgs_nil)))) 
        (pss_one (ps_ret (pe_tup (pa_star (pe_slice sl_tupA (pv 0) po_none (po_some (pv 2))) (pa_cons (pv 3) (pa_star (pe_slice sl_tupA (pv 0) (po_some (pe_op op_add (pv 2) pe_int)) po_none) pa_nil)))))))), ?_⟩
    cases hc : chD z with
    | none =>
      refine ⟨_, rfl, z, none, rfl, rfl, hC.no z hc, _, rfl, iteT ⟨_, rfl, q H a (Same.refl H) ?_⟩⟩
      rw [stB_ch, hc]
      exact hs
    | some c =>
      obtain ⟨i, b⟩ := c
      obtain ⟨t, ht, hts⟩ := hC.yes z i b hc
      have hi : i < 3 := chD_lt hc
      refine ⟨_, rfl, z, _, rfl, rfl, ht, _, rfl, iteF ⟨_, rfl, dC, z, .ref t, rfl, rfl, ?_, t, _, rfl, hts _, rfl, ?_⟩⟩
      · exact ⟨es, n, _, D.at_, D.lit, ht, rfl⟩
      · refine ⟨_, _, rfl, _, _, rfl, rfl, _, rfl, _, rfl, _, rfl, slA0 hs fun H1 c1 s1 h1 => ⟨c1, _, rfl, .inl h1, _, rfl, _, rfl, _, rfl, _, _, rfl, rfl, _, rfl, slN0 (Same.seqT s1 hs) fun H2 c2 s2 h2 => ⟨c2, _, rfl, .inl h2, ?_⟩⟩⟩
        refine ⟨?_, fun t2 ht2 => q _ _ ((s1.trans s2).trans (same_upd ht2)) ?_⟩
        · rw [cut3 hi]
          exact Nat.le_of_lt (small1000 (by show 3 ≤ 1000; omega))
        · rw [stB_ch, hc]
          refine .inl (.inl ?_)
          rw [upd_same]
          exact congrArg (fun z => some (HO.tup z)) (cut3 hi)
end
end K05

namespace K05
open PySem PySem.Spec PyProof.Rows StX L2 TL GG OO LY
def hide (l : Addr) (H : Hp) : Hp := fun b => if b = l then none else H b
theorem hide_ne {l b : Addr} {H : Hp} (h : b ≠ l) : hide l H b = H b := if_neg h
theorem hide_upd {l : Addr} {H : Hp} {o : HO} : hide l (upd H l o) = hide l H := by
  funext b
  unfold hide
  by_cases h : b = l
  · rw [if_pos h, if_pos h]
  · rw [if_neg h, if_neg h, upd_ne h]
theorem hide_same {l : Addr} {H H' : Hp} (s : Same H H') : Same (hide l H) (hide l H') := fun b o e => by
  unfold hide at e ⊢
  by_cases h : b = l
  · rw [if_pos h] at e
    cases e
  · rw [if_neg h] at e ⊢
    exact s b o e
theorem hide_le {l : Addr} {H : Hp} : Same (hide l H) H := fun b o e => by
  unfold hide at e
  by_cases h : b = l
  · rw [if_pos h] at e
    cases e
  · rw [if_neg h] at e
    exact e
theorem same_hide {l : Addr} {H H' : Hp} (s : Same H H') (h : H l = none) : Same H (hide l H') := fun b o e => by
  unfold hide
  rw [if_neg (fun z => by rw [z, h] at e; cases e)]
  exact s b o e
/-- n places from o, then e -/
def wl (n o e : Nat) : List Nat := (List.range n).map (o + ·) ++ [e]
theorem wl_succ (n o e : Nat) : wl (n + 1) o e = o :: wl n (o + 1) e := by
  unfold wl
  rw [List.range_succ_eq_map, List.map_cons, List.map_map]
  have : ((fun x => o + x) ∘ Nat.succ) = fun x => o + 1 + x := by
    funext x
    show o + (x + 1) = o + 1 + x
    omega
  rw [this]
  rfl
theorem wl_len (n o e : Nat) : (wl n o e).length = n + 1 := by
  unfold wl
  rw [List.length_append, List.length_map, List.length_range]
  rfl
theorem chain_wl (e : Nat) : ∀ n o : Nat, chain e o n = (wl n o e).tail.map fun b => [b]
  | 0, _ => rfl
  | 1, _ => rfl
  | n + 2, o => by
    rw [wl_succ, wl_succ]
    show [o + 1] :: chain e (o + 1) (n + 1) = [o + 1] :: _
    rw [chain_wl e (n + 1) (o + 1), wl_succ]
    rfl
theorem wl_head (n o e : Nat) : (wl n o e)[0]? = some (if n = 0 then e else o) := by
  cases n with
  | zero => rfl
  | succ n => rw [wl_succ]; rfl
def iN (b : Nat) : V := .int (Int.ofNat b)
theorem wl_V (n o e : Nat) : rgV (Int.ofNat o) (Int.ofNat (o + n)) ++ [iN e] = (wl n o e).map iN := by
  unfold rgV wl
  have : ((Int.ofNat (o + n)) - (Int.ofNat o)).toNat = n := by
    show ((o + n : Nat) - (o : Nat) : Int).toNat = n
    omega
  rw [this, List.map_append, List.map_map]
  congr 1
theorem cut1 : ∀ xs : List V, xs ≠ [] → cutV xs (some 1) none = xs.tail
  | [], h => absurd rfl h
  | x :: xs, _ => by
    unfold cutV
    rw [show HT.sIx (x :: xs).length 0 (some 1) = 1 by
      show HT.sIx _ _ (some ((1 : Nat) : Int)) = 1
      rw [HT.sIx_nat, List.length_cons]
      omega]
    show (xs.take (HT.sIx _ _ none - 1)) = xs
    rw [HT.sIx_none, List.length_cons]
    exact List.take_of_length_le (by omega)
theorem leads_snoc (e : Nat) (d : PyData) : ∀ (A : List PyData) (o : Nat), leads e o (A ++ [d]) = leads e o A ++ leads e (o + (spread A).length) [d]
  | [], _ => rfl
  | a :: r, o => by
    show leads e o (a :: (r ++ [d])) = _
    rw [spread_cons, List.length_cons, List.length_append]
    cases h : wayOf a with
    | none =>
      have hw : way a = [] := by unfold LY.way; rw [h]; rfl
      rw [leads_none h, leads_none h, leads_snoc e d r (o + 1), hw]
      show _ :: _ = _ :: _
      congr 3
      show o + 1 + (spread r).length = o + (0 + (spread r).length + 1)
      omega
    | some w =>
      have hw : way a = w := by unfold LY.way; rw [h]; rfl
      rw [leads_some h, leads_some h, leads_snoc e d r (o + 1 + w.length), hw, List.cons_append, List.append_assoc]
      congr 4
      omega
/-- an item's own places -/
theorem leads_one {e o : Nat} {d : PyData} (h : ItemD d) : leads e o [d] = (if headW d = "ask" then [o + 1 + (way d).length, if (way d).length = 0 then e else o + 1] else [o + 1 + (way d).length]) :: chain e (o + 1) (way d).length := by
  rcases h with ⟨w, r, rfl, hw, hn⟩ | ⟨m, r, rfl⟩
  · have h1 : way (.tuple (.str w :: r)) = [] := by unfold LY.way; rw [hn]; rfl
    have h2 : headW (.tuple (.str w :: r)) = w := rfl
    rw [leads_none hn, h1, h2, if_neg hw]
    rfl
  · have h1 : way (.tuple [.str "ask", m, .tuple r]) = r := rfl
    have h3 : wayOf (.tuple [.str "ask", m, .tuple r]) = some r := rfl
    have h2 : headW (.tuple [.str "ask", m, .tuple r]) = "ask" := rfl
    rw [leads_some h3, h1, h2, if_pos rfl]
    show _ :: (_ ++ []) = _
    rw [List.append_nil]
def ldD (bs : List Nat) : PyData := .tuple (bs.map fun b => .int (Int.ofNat b))
theorem if_pair {b : Bool} {σ : L2.St} {H : Hp} {Q : VK} {ta tb : TE} (F1 F2 : List V) (h1 : b = true → ∀ C : VK, (∀ t, H t = none → C (.ref t) (upd H t (.tup F1))) → ta σ H C) (h2 : b = false → ∀ C : VK, (∀ t, H t = none → C (.ref t) (upd H t (.tup F2))) → tb σ H C) (hq : ∀ t, H t = none → Q (.ref t) (upd H t (.tup (if b = true then F1 else F2)))) : if b = true then ta σ H Q else tb σ H Q := by
  cases b with
  | true => exact h1 rfl Q hq
  | false => exact h2 rfl Q hq
theorem ItemD.head {d : PyData} (h : ItemD d) : ∃ w r, d = .tuple (.str w :: r) ∧ headW d = w := by
  rcases h with ⟨w, r, rfl, _⟩ | ⟨m, r, rfl⟩
  · exact ⟨w, r, rfl, rfl⟩
  · exact ⟨_, _, rfl, rfl⟩
section
variable {P : Program} {w : World} {K : PySem.W.Frag} {mg : Str → Option Value} {base : Heap} {lt0 lt1 lt2 lt3 lt4 : Tok} {t0 t1 t2 t3 t4 t5 t6 t7 t8 tF tO dC : Addr}
theorem dp_iNs {H : Hp} {t : Addr} (F : List Nat) (h : H t = some (.tup (F.map iN))) : Dp K H (.ref t) (ldD F) := by
  refine .tup (.inl (.inl h)) ?_
  have := dp_ints (K := K) (H := H) (F.map Int.ofNat)
  rw [List.map_map, List.map_map] at this
  exact this
def spLeads (K : PySem.W.Frag) : Sp := fun vs H Q _ => ∃ (x : V) (ds : List PyData) (e : Nat), vs = [x, iN e] ∧ Dp K H x (.tuple ds) ∧ (∀ d ∈ ds, ItemD d) ∧ (spread ds).length ≤ 100 ∧ e ≤ 100 ∧ ∀ H' p ys, Same H H' → H' p = some (.lst ys) → DpAll K H' ys ((leads e 0 ds).map ldD) → Q (.ref p) H'
theorem sc_leads : FnScope ["parts", "end", "leads", "part", "first_of_way_out", "behind", "way_out", "place"] ["parts", "end"] (defScope s_leads) := ⟨rfl, rfl, rfl, by decide +kernel, rfl, by decide +kernel, by decide +kernel⟩
theorem ok_leads {f : Addr} {fd : FuncData} (F : Fun K "_leads" "_leads" s_leads f fd) (T : Txt K mg lt0 lt1 lt2 lt3 lt4 t0 t1 t2 t3 t4 t5 t6 t7 t8 tF tO dC) {f1 : Addr} {fd1 : FuncData} (F_way_out_of : Fun K "_way_out_of" "_way_out_of" s_way_out_of f1 fd1) (b_way_out_of : Binds K fd1 ["part"] []) (g_way_out_of : mg "_way_out_of" = some (.ref f1)) (G_way_out_of : FnOk P w K mg base CX0 1 f1 fd1 ["part"] (spWay K)) : FnOk P w K mg base CX0 2 f fd ["parts", "end"] (spLeads K) := by
  refine F.ok sc_leads (fun vs H Q E h => ?_) (fun cdv A outer s H vs Q E hr h => ?_)
  · obtain ⟨x, ds, e, rfl, _⟩ := h
    rfl
  · obtain ⟨x, ds, e, rfl, hd, hi, hlen, he, q⟩ := h
    refine ⟨_, (pss_cons (ps_set (i := 2) sc_leads.nd rfl (.inl rfl) (pe_lst pa_nil)) 
        (pss_cons (ps_for PassesOwn.never rfl (pi_tup (pv 0)) (pg_name (i := 3) sc_leads.nd rfl (.inl rfl)) 
          (pss_cons (ps_set (i := 4) sc_leads.nd rfl (.inl rfl) (pe_op op_add (pe_callB call_len_seq (by rfl) T.m_len PySem.boot_len (pa_cons (pv 2) pa_nil)) pe_int)) 
          (pss_cons (ps_set (i := 5) sc_leads.nd rfl (.inl rfl) (pe_op op_add (pv 4) (pe_callB call_len_seq (by rfl) T.m_len PySem.boot_len (pa_cons (pe_call G_way_out_of hr (by rfl) g_way_out_of F_way_out_of.kp b_way_out_of .nil pass0 (pa_cons (pv 3) pa_nil)) pa_nil)))) 
          (pss_cons (ps_set (i := 6) sc_leads.nd rfl (.inl rfl) (pe_op op_cat (pe_listRg rfl (by rfl) T.m_list (prg_2 (by rfl) T.m_range (pv 4) (pv 5))) (pe_lst (pa_cons (pv 1) pa_nil)))) 
          (pss_cons (ps_expr (pe_bm PySem.F.plainAttrs_list PySem.F.slot_list_append PySem.F.type_list_append mt_append (pv 2) (pa_cons (pe_ifExp (pt_cmpR op_eq (pe_ix ix_tup (pv 3) pe_int (fun _ _ => rfl)) pe_str (nomark _)) (pe_tup (pa_cons (pv 5) (pa_cons (pe_ix ix_list (pv 6) pe_int (fun _ _ => rfl)) pa_nil))) (pe_tup (pa_cons (pv 5) pa_nil))) pa_nil))) 
          (pss_one (ps_expr (pe_bm PySem.F.plainAttrs_list PySem.F.slot_list_extend PySem.F.type_list_extend mt_extend (pv 2) (pa_cons (pe_lc (own := [("place", 7)]) (g := gName 7) rfl sc_leads.nd (pi_list (pe_slice sl_list (pv 6) (po_some pe_int) po_none)) (blkOk_by (N := ["parts", "end", "leads", "part", "first_of_way_out", "behind", "way_out", "place"]) (sc := defScope s_leads) (by decide +kernel)) (fun _ _ _ _ _ => pg_name (i := 7) sc_leads.nd rfl (.inl rfl)) (fun _ _ _ _ _ => pts_nil) (fun _ _ _ _ _ => (pe_tup (pa_cons (pv 7) pa_nil)))) pa_nil))))))))) 
        (pss_one (ps_ret (pv 2))))), ?_⟩
    obtain ⟨b, xs, rfl, hs, ha⟩ : ∃ (b : Addr) (xs : List V), x = .ref b ∧ SqT K H b xs ∧ DpAll K H xs ds := by
      cases hd with
      | tup h1 h2 => exact ⟨_, _, rfl, h1, h2⟩
    have hl := dpAll_len ha
    refine ⟨Nat.zero_le _, fun p hp => ?_⟩
    refine ⟨_, rfl, b, rfl, ⟨_, Same.seqT (same_upd hp) hs⟩, for_it (walk_tup (xs := xs)) (fun i σ H' => Same H (hide p H') ∧ ∃ (ys : List V) (y3 y4 y5 y6 y7 : Option V), σ = [some (.ref b), some (iN e), some (.ref p), y3, y4, y5, y6, y7] ∧ H' p = some (.lst ys) ∧ DpAll K (hide p H') ys ((leads e 0 (ds.take i)).map ldD)) ⟨same_hide (same_upd hp) hp, [], _, _, _, _, _, rfl, upd_same, .nil⟩ (fun i σ H' _ h => Same.seqT (h.1.trans hide_le) hs) ?_ ?_⟩
    · rintro i x σ _ H1 hi0 ⟨s1, ys, y3, y4, y5, y6, y7, rfl, hp1, hy⟩ ⟨rfl, hx⟩
      have hid : i < ds.length := by omega
      have hdi : ds[i]? = some ds[i] := List.getElem?_eq_getElem hid
      have S1 : Same H H1 := s1.trans hide_le
      have hdx := dp_same S1 _ _ (dpAll_at ha hx hdi)
      have hit := hi _ (List.mem_of_getElem? hdi)
      have htake : ds.take (i + 1) = ds.take i ++ [ds[i]] := by rw [List.take_add_one, hdi]; rfl
      have ho : ys.length = (spread (ds.take i)).length := by rw [dpAll_len hy, List.length_map, leads_len]
      generalize hdd : ds[i] = d at hdx hit htake
      generalize hoo : (spread (ds.take i)).length = o at ho
      have hon : o + (1 + (way d).length) ≤ 100 := by
        have e1 : spread ds = spread (ds.take (i + 1)) ++ spread (ds.drop (i + 1)) := by
          unfold spread
          rw [← List.flatMap_append, List.take_append_drop]
        have e2 := congrArg List.length e1
        rw [List.length_append, htake, spread_snoc, List.length_append, hoo, List.length_cons] at e2
        omega
      refine ⟨_, rfl, p, ys, rfl, .inl (.inl (.inl hp1)), _, _, rfl, rfl, _, rfl, _, rfl, x, d, rfl, hdx, hit, fun H2 z s2 hz => ?_⟩
      obtain ⟨zb, zs, rfl, hzs, hza⟩ : ∃ (zb : Addr) (zs : List V), z = .ref zb ∧ SqT K H2 zb zs ∧ DpAll K H2 zs (way d) := by
        cases hz with
        | tup h1 h2 => exact ⟨_, _, rfl, h1, h2⟩
      have hzl := dpAll_len hza
      have hF1 := leads_one (e := e) (o := o) hit
      generalize hnn : (way d).length = n at hzl hon hF1
      have hp2 := s2 _ _ hp1
      refine ⟨zb, zs, rfl, .inr hzs, _, _, rfl, rfl, _, rfl, _, rfl, _, _, rfl, rfl, ?_, fun wr hwr => ⟨_, rfl, Nat.le_of_lt (small1000 (by show 1 ≤ 1000; omega)), fun we hwe => ?_⟩⟩
      · exact .of_le (by omega) (by omega) (by omega) (by omega)
      have hW : rgV ((ys.length : Int) + 1) ((ys.length : Int) + 1 + (zs.length : Int)) ++ [iN e] = (wl n (o + 1) e).map iN := by
        rw [ho, hzl]
        exact wl_V n (o + 1) e
      refine ⟨wr, we, _, _, rfl, rfl, same_upd hwe _ _ upd_same, upd_same, ?_, fun wo hwo => ?_⟩
      · rw [← List.length_append]
        show (rgV ((ys.length : Int) + 1) ((ys.length : Int) + 1 + (zs.length : Int)) ++ [iN e]).length ≤ _
        rw [hW, List.length_map, wl_len]
        exact Nat.le_of_lt (small1000 (by omega))
      have s5 := s2.trans ((same_upd hwr).trans ((same_upd hwe).trans (same_upd (o := .lst (rgV ((ys.length : Int) + 1) ((ys.length : Int) + 1 + (zs.length : Int)) ++ [iN e])) hwo)))
      have hp5 := s5 _ _ hp1
      have hwp : wo ≠ p := fun z => by
        have := (s2.trans ((same_upd hwr).trans (same_upd (o := .lst [iN e]) hwe))) _ _ hp1
        rw [← z, hwo] at this
        cases this
      have hw5 : upd (upd (upd H2 wr (.lst (rgV ((ys.length : Int) + 1) ((ys.length : Int) + 1 + (zs.length : Int))))) we (.lst [iN e])) wo (.lst (rgV ((ys.length : Int) + 1) ((ys.length : Int) + 1 + (zs.length : Int)) ++ [iN e])) wo = some (.lst ((wl n (o + 1) e).map iN)) := by rw [upd_same, hW]
      show tSeq _ _ _ _ (upd (upd (upd H2 wr (.lst (rgV ((ys.length : Int) + 1) ((ys.length : Int) + 1 + (zs.length : Int))))) we (.lst [iN e])) wo (.lst (rgV ((ys.length : Int) + 1) ((ys.length : Int) + 1 + (zs.length : Int)) ++ [iN e])))
      generalize upd (upd (upd H2 wr (.lst (rgV ((ys.length : Int) + 1) ((ys.length : Int) + 1 + (zs.length : Int))))) we (.lst [iN e])) wo (.lst (rgV ((ys.length : Int) + 1) ((ys.length : Int) + 1 + (zs.length : Int)) ++ [iN e])) = H5 at s5 hp5 hw5 ⊢
      obtain ⟨hw, hr5, rfl, hhd⟩ := hit.head
      obtain ⟨xa, xv, rfl, hxs, hx0⟩ := dp_head (dp_same s5 _ _ hdx)
      refine ⟨_, rfl, .inl ⟨rfl, _, .inl (.inl hp5)⟩, _, rfl, xa, xv, _, _, rfl, rfl, hxs, hx0, rfl, _, rfl, ?_⟩
      have hv5 : V.int ((ys.length : Int) + 1 + (zs.length : Int)) = iN (o + 1 + n) := by rw [ho, hzl]; rfl
      obtain ⟨F, hF, hF2⟩ : ∃ F : List Nat, (if decide (V.str hw = V.str "ask") = true then [iN (o + 1 + n), iN (if n = 0 then e else o + 1)] else [iN (o + 1 + n)]) = F.map iN ∧ leads e o [.tuple (.str hw :: hr5)] = F :: chain e (o + 1) n := by
        refine ⟨_, ?_, hF1⟩
        rw [hhd]
        by_cases z : hw = "ask"
        · rw [if_pos z, if_pos (decide_eq_true (by rw [z]))]
          rfl
        · rw [if_neg z, if_neg (by rw [decide_eq_false fun y => z (V.str.inj y)]; exact Bool.false_ne_true)]
          rfl
      refine if_pair [iN (o + 1 + n), iN (if n = 0 then e else o + 1)] [iN (o + 1 + n)] (fun hb C c => ?_) (fun hb C c => ?_) (fun t ht => ?_)
      · refine ⟨_, rfl, _, rfl, wo, _, _, _, rfl, rfl, .inl (.inl hw5), atI_nat (j := 0) (v := iN (if n = 0 then e else o + 1)) ?_, Nat.le_of_lt (small1000 (by show 2 ≤ 1000; omega)), fun t ht => ?_⟩
        · rw [List.getElem?_map, wl_head]
          rfl
        · have := c t ht
          rw [← hv5] at this
          exact this
      · refine ⟨_, rfl, Nat.le_of_lt (small1000 (by show 1 ≤ 1000; omega)), fun t ht => ?_⟩
        have := c t ht
        rw [← hv5] at this
        exact this
      · rw [hF]
        have hpt : upd H5 t (.tup (F.map iN)) p = some (.lst ys) := same_upd ht _ _ hp5
        refine ⟨p, ys, _, rfl, rfl, hpt, ?_, ?_⟩
        · exact small1000 (by omega)
        have st : Same H5 (upd H5 t (.tup (F.map iN))) := same_upd ht
        have htp : t ≠ p := fun z => by rw [← z, ht] at hp5; cases hp5
        have hJw : upd (upd H5 t (.tup (F.map iN))) p (.lst (ys ++ [.ref t])) wo = some (.lst ((wl n (o + 1) e).map iN)) := by rw [upd_ne hwp]; exact st _ _ hw5
        have hJp : upd (upd H5 t (.tup (F.map iN))) p (.lst (ys ++ [.ref t])) p = some (.lst (ys ++ [.ref t])) := upd_same
        have hJs : Same (hide p H1) (hide p (upd (upd H5 t (.tup (F.map iN))) p (.lst (ys ++ [.ref t])))) := by
          rw [hide_upd]
          exact hide_same (s5.trans st)
        have hJd : DpAll K (hide p (upd (upd H5 t (.tup (F.map iN))) p (.lst (ys ++ [.ref t])))) (ys ++ [.ref t]) ((leads e 0 (ds.take i)).map ldD ++ [ldD F]) := by
          refine dpAll_app (dpAll_same hJs _ _ hy) (.cons ?_ .nil)
          rw [hide_upd]
          refine dp_iNs F ?_
          rw [hide_ne htp, upd_same]
        show tSeq _ _ _ _ (upd (upd H5 t (.tup (F.map iN))) p (.lst (ys ++ [.ref t])))
        generalize upd (upd H5 t (.tup (F.map iN))) p (.lst (ys ++ [.ref t])) = J at hJw hJp hJs hJd ⊢
        have hW0 : (wl n (o + 1) e).map iN ≠ [] := fun z => by
          have := congrArg List.length z
          rw [List.length_map, wl_len] at this
          cases this
        have hcut : cutV ((wl n (o + 1) e).map iN) (some 1) none = (wl n (o + 1) e).tail.map iN := by rw [cut1 _ hW0, List.map_tail]
        refine ⟨_, rfl, .inl ⟨rfl, _, .inl (.inl hJp)⟩, _, rfl, 1, rfl, wo, _, rfl, .inl (.inl hJw), fun c hc => ⟨c, rfl, ⟨_, .inl (.inl upd_same)⟩, fun D hD => ?_⟩⟩
        rw [hcut] at hD ⊢
        have hcp : c ≠ p := fun z => by rw [z, hJp] at hc; cases hc
        have sJ : Same J (upd J c (.lst ((wl n (o + 1) e).tail.map iN))) := same_upd hc
        have hJp2 := sJ _ _ hJp
        have hDp : D ≠ p := fun z => by rw [z, hJp2] at hD; cases hD
        have hcc : upd J c (.lst ((wl n (o + 1) e).tail.map iN)) c = some (.lst ((wl n (o + 1) e).tail.map iN)) := upd_same
        generalize upd J c (.lst ((wl n (o + 1) e).tail.map iN)) = J2 at sJ hJp2 hD hcc ⊢
        refine lc_list (xs := (wl n (o + 1) e).tail.map iN) (fun j H' => Same J2 H' ∧ ∃ acc, H' D = some (.lst acc) ∧ DpAll K (hide p (hide D H')) acc (((wl n (o + 1) e).tail.take j).map fun b => ldD [b])) ⟨same_upd hD, [], upd_same, .nil⟩ (fun j H' _ h => .inl (.inl (h.1 _ _ hcc))) ?_ ?_
        · rintro j y H3 hy3 ⟨s3, acc, hacc, hall⟩
          have hj : j < (wl n (o + 1) e).tail.length := by
            have := (List.getElem?_eq_some_iff.mp hy3).1
            rwa [List.length_map] at this
          have hjn : (wl n (o + 1) e).tail.length = n := by rw [List.length_tail, wl_len]; rfl
          have ey : y = iN (wl n (o + 1) e).tail[j] := by
            rw [List.getElem?_map, List.getElem?_eq_getElem hj] at hy3
            exact (Option.some.inj hy3).symm
          subst ey
          refine ⟨rfl, yes_then ⟨_, rfl, Nat.le_of_lt (small1000 (by show 1 ≤ 1000; omega)), fun u hu => ⟨acc, same_upd hu _ _ hacc, ?_, same_st (s3.trans (same_upd hu)) hD, _, upd_same, ?_⟩⟩⟩
          · rw [dpAll_len hall, List.length_map, List.length_take]
            exact small1000 (by omega)
          · have hup : u ≠ p := fun z => by
              have := s3 _ _ hJp2
              rw [← z, hu] at this
              cases this
            have huD : u ≠ D := fun z => by rw [← z, hu] at hacc; cases hacc
            rw [hide_upd, List.take_add_one, List.getElem?_eq_getElem hj, List.map_append]
            refine dpAll_app (dpAll_same (hide_same (hide_same (same_upd hu))) _ _ hall) (.cons (dp_iNs [_] ?_) .nil)
            rw [hide_ne hup, hide_ne huD, upd_same]
            rfl
        · rintro H3 ⟨s3, acc, hacc, hall⟩
          have hjn : (wl n (o + 1) e).tail.length = n := by rw [List.length_tail, wl_len]; rfl
          rw [List.length_map, List.take_of_length_le (Nat.le_refl _)] at hall
          have hch : (chain e (o + 1) n).map ldD = (wl n (o + 1) e).tail.map fun b => ldD [b] := by
            rw [chain_wl, List.map_map]
            rfl
          refine ⟨p, D, _, acc, rfl, rfl, s3 _ _ hJp2, hacc, ?_, ?_, _, _, _, _, _, _, rfl, upd_same, ?_⟩
          · rw [List.length_append, dpAll_len hall, List.length_map, hjn]
            exact Nat.le_of_lt (small1000 (by show ys.length + 1 + n ≤ 1000; omega))
          · rw [hide_upd]
            exact s1.trans (hJs.trans (hide_same (sJ.trans s3)))
          · rw [hide_upd, htake, leads_snoc, hoo, Nat.zero_add, hF2, List.map_append, List.map_cons, hch, (by rw [List.append_assoc]; rfl : (leads e 0 (ds.take i)).map ldD ++ ldD F :: ((wl n (o + 1) e).tail.map fun b => ldD [b]) = ((leads e 0 (ds.take i)).map ldD ++ [ldD F]) ++ ((wl n (o + 1) e).tail.map fun b => ldD [b]))]
            exact dpAll_app (dpAll_same (hide_same (sJ.trans s3)) _ _ hJd) (dpAll_same (hide_same hide_le) _ _ hall)
    · rintro σ H1 ⟨s1, ys, y3, y4, y5, y6, y7, rfl, hp1, hy⟩
      rw [List.take_of_length_le (by omega)] at hy
      exact ⟨_, rfl, q _ _ _ (s1.trans hide_le) hp1 (dpAll_same hide_le _ _ hy)⟩
end
end K05

namespace K05
open PySem PySem.Spec PyProof.Rows StX L2 TL GG OO LY
def ff3 : St3 := (false, false, false)
theorem runs_snoc (d : PyData) (bs : List Nat) : ∀ (A : List (PyData × List Nat)) (i : Nat) (S : List St3), runs S i (A ++ [(d, bs)]) = setAll (runs S i A) bs (stB ((runs S i A).getD (i + A.length) (false, false, false)) (headW d))
  | [], _, _ => rfl
  | (a, cs) :: r, i, S => by
    show runs _ (i + 1) (r ++ [(d, bs)]) = _
    rw [runs_snoc d bs r (i + 1)]
    have : i + 1 + r.length = i + ((a, cs) :: r).length := by rw [List.length_cons]; omega
    rw [this]
    rfl
theorem setAll_snoc (S : List St3) (v : St3) (A : List Nat) (b : Nat) : setAll S (A ++ [b]) v = (setAll S A v).set b v := by
  unfold setAll
  rw [List.foldl_append]
  rfl
def StAll (K : PySem.W.Frag) (R : Hp) (zs : List V) (S : List St3) : Prop := zs.length = S.length ∧ ∀ (i : Nat) (s : St3), S[i]? = some s → ∃ a : Addr, zs[i]? = some (V.ref a) ∧ SqT K R a (v3 s)
section
variable {P : Program} {w : World} {K : PySem.W.Frag} {mg : Str → Option Value} {base : Heap} {lt0 lt1 lt2 lt3 lt4 : Tok} {t0 t1 t2 t3 t4 t5 t6 t7 t8 tF tO dC : Addr}
theorem StAll.same {R R' : Hp} {zs : List V} {S : List St3} (h : StAll K R zs S) (s : Same R R') : StAll K R' zs S := ⟨h.1, fun i t e => by
  obtain ⟨a, h1, h2⟩ := h.2 i t e
  exact ⟨a, h1, Same.seqT s h2⟩⟩
theorem StAll.set {R : Hp} {zs : List V} {S : List St3} {a : Addr} {t : St3} (h : StAll K R zs S) (j : Nat) (ha : SqT K R a (v3 t)) : StAll K R (zs.set j (.ref a)) (S.set j t) := by
  refine ⟨by rw [List.length_set, List.length_set]; exact h.1, fun i u e => ?_⟩
  by_cases hij : j = i
  · subst hij
    have hj : j < S.length := by
      have := (List.getElem?_eq_some_iff.mp e).1
      rwa [List.length_set] at this
    rw [List.getElem?_set_self hj] at e
    obtain rfl := Option.some.inj e
    refine ⟨a, ?_, ha⟩
    rw [List.getElem?_set_self (by rw [h.1]; exact hj)]
  · rw [List.getElem?_set_ne hij] at e
    rw [List.getElem?_set_ne hij]
    exact h.2 i u e
theorem StAll.snoc {R : Hp} {zs : List V} {S : List St3} {a : Addr} {t : St3} (h : StAll K R zs S) (ha : SqT K R a (v3 t)) : StAll K R (zs ++ [.ref a]) (S ++ [t]) := by
  refine ⟨by rw [List.length_append, List.length_append, h.1]; rfl, fun i u e => ?_⟩
  by_cases hi : i < S.length
  · rw [List.getElem?_append_left hi] at e
    rw [List.getElem?_append_left (by rw [h.1]; exact hi)]
    exact h.2 i u e
  · have hi' : S.length ≤ i := by omega
    rw [List.getElem?_append_right hi'] at e
    rw [List.getElem?_append_right (by rw [h.1]; exact hi'), h.1]
    have h0 : i - S.length = 0 := by
      have := (List.getElem?_eq_some_iff.mp e).1
      have : i - S.length < 1 := this
      omega
    rw [h0] at e ⊢
    obtain rfl := Option.some.inj e
    exact ⟨a, rfl, ha⟩
theorem StAll.take {R : Hp} {zs : List V} {S : List St3} (h : StAll K R zs S) (n : Nat) : StAll K R (zs.take n) (S.take n) := by
  refine ⟨by rw [List.length_take, List.length_take, h.1], fun i u e => ?_⟩
  by_cases hi : i < n
  · rw [List.getElem?_take_of_lt hi] at e ⊢
    exact h.2 i u e
  · have := (List.getElem?_eq_some_iff.mp e).1
    rw [List.length_take] at this
    omega
theorem sqT_hide {H : Hp} {D a : Addr} {xs zs : List V} (h : SqT K H a xs) (hD : H D = some (.lst zs)) : SqT K (hide D H) a xs := by
  rcases h with h | h
  · refine .inl ?_
    rcases h with h | ⟨o, h⟩
    · refine .inl ?_
      rw [hide_ne (fun z => by rw [z, hD] at h; cases h)]
      exact h
    · refine .inr ⟨o, ?_⟩
      rw [hide_ne (fun z => by rw [z, hD] at h; cases h)]
      exact h
  · exact .inr h
theorem ixN_nat0 {n j : Nat} (hj : j < n) : ixN n (j : Int) = some j := by
  unfold ixN
  rw [if_pos (by omega), if_pos (by omega)]
  rfl
theorem cutM (zs : List V) : cutV zs none (some (-1)) = zs.take (zs.length - 1) := by
  have h : HT.sIx zs.length zs.length (some (-1)) = zs.length - 1 := by
    show (if (-1 : Int) < 0 then ((-1 : Int) + (zs.length : Int)).toNat else min (-1 : Int).toNat zs.length) = _
    rw [if_pos (by omega)]
    omega
  unfold cutV
  rw [h, HT.sIx_none, List.drop_zero, Nat.sub_zero]
theorem dpAll_iN {H : Hp} : ∀ {vs : List V} (bs : List Nat), DpAll K H vs (bs.map fun b => PyData.int (Int.ofNat b)) → vs = bs.map iN
  | _, [], h => by cases h; rfl
  | _, b :: bs, h => by
    cases h with
    | cons h1 h2 =>
      cases h1
      rw [dpAll_iN bs h2]
      rfl
theorem dp_ld {H : Hp} {v : V} {bs : List Nat} (h : Dp K H v (ldD bs)) : ∃ a : Addr, v = .ref a ∧ SqT K H a (bs.map iN) := by
  cases h with
  | tup h1 h2 => exact ⟨_, rfl, dpAll_iN bs h2 ▸ h1⟩
def spStandings (K : PySem.W.Frag) : Sp := fun vs H Q _ => ∃ (x y : V) (ps : List PyData) (L : List (List Nat)), vs = [x, y] ∧ Dp K H x (.tuple ps) ∧ Dp K H y (.tuple (L.map ldD)) ∧ L.length = ps.length ∧ (∀ d ∈ ps, ItemD d) ∧ ps.length ≤ 100 ∧ (∀ i bs, L[i]? = some bs → ∀ b ∈ bs, i < b ∧ b ≤ ps.length) ∧ ∀ H' p zs, Same H H' → H' p = some (.lst zs) → StAll K H' zs ((runs (List.replicate (ps.length + 1) ff3) 0 (ps.zip L)).take ps.length) → Q (.ref p) H'
theorem sc_standings : FnScope ["placed", "leads", "standings", "place", "item", "behind", "_"] ["placed", "leads"] (defScope s_standings) := ⟨rfl, rfl, rfl, by decide +kernel, rfl, by decide +kernel, by decide +kernel⟩
theorem ok_standings {f : Addr} {fd : FuncData} (F : Fun K "_standings" "_standings" s_standings f fd) (T : Txt K mg lt0 lt1 lt2 lt3 lt4 t0 t1 t2 t3 t4 t5 t6 t7 t8 tF tO dC) {f1 : Addr} {fd1 : FuncData} (F_standing_behind : Fun K "_standing_behind" "_standing_behind" s_standing_behind f1 fd1) (b_standing_behind : Binds K fd1 ["standing", "word"] []) (g_standing_behind : mg "_standing_behind" = some (.ref f1)) (G_standing_behind : FnOk P w K mg base CX0 1 f1 fd1 ["standing", "word"] (spStB K)) : FnOk P w K mg base CX0 2 f fd ["placed", "leads"] (spStandings K) := by
  refine F.ok sc_standings (fun vs H Q E h => ?_) (fun cdv A outer s H vs Q E hr h => ?_)
  · obtain ⟨x, y, ps, L, rfl, _⟩ := h
    rfl
  · obtain ⟨x, y, ps, L, rfl, hd, hL, hLl, hi, hlen, hb, q⟩ := h
    refine ⟨_, (pss_cons (ps_setLc (i := 2) (own := [("_", 6)]) (g := gName 6) rfl sc_standings.nd rfl rfl (sw_true rfl rfl rfl (by decide +kernel)) (pi_range1 rfl T.m_range (pa_cons (pe_op op_add (pe_callB call_len_seq (by rfl) T.m_len PySem.boot_len (pa_cons (pv 0) pa_nil)) pe_int) pa_nil)) (blkOk_by (N := ["placed", "leads", "standings", "place", "item", "behind", "_"]) (sc := defScope s_standings) (by decide +kernel)) (fun _ _ _ _ _ => pg_name (i := 6) sc_standings.nd rfl (.inl rfl)) (fun _ _ _ _ _ => pts_nil) (fun _ _ _ _ _ => (pe_glob (v := .ref tF) rfl T.c_AT_FIRST rfl))) 
        (pss_cons (ps_for PassesOwn.never rfl (pi_enumT (by rfl) T.m_enumerate (pa_cons (pv 0) pa_nil)) (pg_tup rfl (pgs_cons (pg_name (i := 3) sc_standings.nd rfl (.inl rfl)) (pgs_cons (pg_name (i := 4) sc_standings.nd rfl (.inl rfl)) pgs_nil))) 
          (pss_one (ps_for PassesOwn.never rfl (pi_tup (pe_ix ix_tup (pv 1) (pv 3) (fun _ _ => rfl))) (pg_name (i := 5) sc_standings.nd rfl (.inl rfl)) 
            (pss_one (ps_asg (pe_call G_standing_behind hr (by rfl) g_standing_behind F_standing_behind.kp b_standing_behind .nil pass0 (pa_cons (pe_ix ix_list (pv 2) (pv 3) (fun _ _ => rfl)) (pa_cons (pe_ix ix_tup (pv 4) pe_int (fun _ _ => rfl)) pa_nil))) (pg_sub (pv 2) (pv 5) set_list)))))) 
        (pss_one (ps_ret (pe_slice sl_list (pv 2) po_none (po_some (pe_un un_neg pe_int))))))), ?_⟩
    obtain ⟨b, xs, rfl, hs, ha⟩ : ∃ (b : Addr) (xs : List V), x = .ref b ∧ SqT K H b xs ∧ DpAll K H xs ps := by
      cases hd with
      | tup h1 h2 => exact ⟨_, _, rfl, h1, h2⟩
    obtain ⟨c, ls, rfl, hcs, hla⟩ : ∃ (c : Addr) (ls : List V), y = .ref c ∧ SqT K H c ls ∧ DpAll K H ls (L.map ldD) := by
      cases hL with
      | tup h1 h2 => exact ⟨_, _, rfl, h1, h2⟩
    have hl := dpAll_len ha
    have hll := dpAll_len hla
    rw [List.length_map] at hll
    refine ⟨_, rfl, b, xs, rfl, .inr hs, _, _, rfl, rfl, _, rfl, by omega, by omega, fun D hD => ?_⟩
    have eN : ((xs.length : Int) + 1).toNat = ps.length + 1 := by omega
    refine lc_range (lo := 0) (n := ((xs.length : Int) + 1).toNat) (fun k H' => Same H (hide D H') ∧ ∃ zs, H' D = some (.lst zs) ∧ StAll K (hide D H') zs (List.replicate k ff3)) ⟨same_hide (same_upd hD) hD, [], upd_same, rfl, fun i s e => by cases e⟩ ?_ ?_
    · rintro k H1 hk ⟨s1, zs, hz, hst⟩
      refine ⟨rfl, yes_then ⟨zs, hz, ?_, ?_, _, upd_same, ?_⟩⟩
      · rw [hst.1, List.length_replicate]
        exact small1000 (by omega)
      · rw [hide_upd]
        exact s1
      · rw [hide_upd, List.replicate_succ']
        exact hst.snoc (T.wF _)
    · rintro H1 ⟨s1, zs, hz, hst⟩
      rw [eN] at hst
      refine ⟨_, rfl, b, xs, rfl, Same.seqT (s1.trans hide_le) hs, ?_⟩
      refine for_it walk_enumT (fun i σ H' => Same H (hide D H') ∧ ∃ (zs : List V) (y3 y4 y5 y6 : Option V), σ = [some (.ref b), some (.ref c), some (.ref D), y3, y4, y5, y6] ∧ H' D = some (.lst zs) ∧ StAll K (hide D H') zs (runs (List.replicate (ps.length + 1) ff3) 0 ((ps.zip L).take i))) ⟨s1, zs, _, _, _, _, rfl, hz, hst⟩ (fun i σ H' _ h => Same.seqT (h.1.trans hide_le) hs) ?_ ?_
      · rintro i x σ H2 H2' hi0 ⟨s2, zs1, y3, y4, y5, y6, rfl, hz2, hst2⟩ ⟨t, u, v, rfl, ht, rfl, hu, hx⟩
        have eu : u = .int (i : Nat) := (Option.some.inj hu).symm
        subst eu
        have hid : i < ps.length := by omega
        have hdi : ps[i]? = some ps[i] := List.getElem?_eq_getElem hid
        have hLi : L[i]? = some L[i] := List.getElem?_eq_getElem (by omega)
        have hzip : (ps.zip L).take (i + 1) = (ps.zip L).take i ++ [(ps[i], L[i])] := by
          rw [List.take_add_one, List.getElem?_eq_getElem (by rw [List.length_zip]; omega), List.getElem_zip]
          rfl
        have st : Same H2 (upd H2 t (.tup [.int (i : Nat), v])) := same_upd ht
        have S3 := (s2.trans hide_le).trans st
        have s3 : Same H (hide D (upd H2 t (.tup [.int (i : Nat), v]))) := s2.trans (hide_same st)
        have hdx := dpAll_at ha hx hdi
        obtain ⟨hw, hr5, hwe, hhd⟩ := (hi _ (List.mem_of_getElem? hdi)).head
        have hlv : ls[i]? = some (ls[i]'(by omega)) := List.getElem?_eq_getElem (by omega)
        obtain ⟨ba, hba, hbs⟩ := dp_ld (dpAll_at hla hlv (d := ldD L[i]) (by rw [List.getElem?_map, hLi]; rfl))
        rw [hba] at hlv
        have hbi := hb i _ hLi
        have hz3 := st _ _ hz2
        have hst3 := hst2.same (hide_same st)
        rw [hwe] at hdx
        obtain ⟨xa, xv, rfl, hxs, hx0⟩ := dp_head hdx
        refine ⟨t, _, rfl, .inl (.inl upd_same), rfl, _, _, rfl, _, _, rfl, ?_⟩
        rw [hzip, runs_snoc, List.length_take, List.length_zip, Nat.min_eq_left (by omega), Nat.zero_add, hhd]
        have hTl : (runs (List.replicate (ps.length + 1) ff3) 0 ((ps.zip L).take i)).length = ps.length + 1 := by rw [runs_len, List.length_replicate]
        generalize runs (List.replicate (ps.length + 1) ff3) 0 ((ps.zip L).take i) = S at hst3 hTl ⊢
        generalize L[i] = bs at hbs hbi ⊢
        generalize upd H2 t (.tup [.int (i : Nat), .ref xa]) = H3 at S3 s3 hz3 hst3 ⊢
        have hSi : S[i]? = some (S.getD i (false, false, false)) := by
          rw [List.getD_eq_getElem?_getD, List.getElem?_eq_getElem (by omega)]
          rfl
        generalize S.getD i (false, false, false) = v0 at hSi ⊢
        refine ⟨rfl, _, rfl, _, rfl, c, ls, _, _, rfl, rfl, Same.seqT S3 hcs, atI_nat hlv, ba, rfl, ⟨_, Same.seqT S3 hbs⟩, ?_⟩
        refine for_it (walk_tup (xs := bs.map iN)) (fun j σ H' => Same H (hide D H') ∧ ∃ (zs : List V) (y5 : Option V), σ = [some (.ref b), some (.ref c), some (.ref D), some (.int (i : Nat)), some (.ref xa), y5, y6] ∧ H' D = some (.lst zs) ∧ StAll K (hide D H') zs (setAll S (bs.take j) (stB v0 hw))) ?_ ?_ ?_ ?_
        · exact ⟨s3, zs1, _, rfl, hz3, hst3⟩
        · exact fun j σ H' _ h => Same.seqT (h.1.trans hide_le) hbs
        · rintro j y σ _ H4 hj ⟨s4', zs, y5, rfl, hz4, hst4⟩ ⟨rfl, hy⟩
          have hjb : j < bs.length := by
            rw [List.length_map] at hj
            exact hj
          have hbj : bs[j]? = some bs[j] := List.getElem?_eq_getElem hjb
          have ey : y = iN bs[j] := by
            rw [List.getElem?_map, hbj] at hy
            exact (Option.some.inj hy).symm
          subst ey
          have hjl := hbi bs[j] (List.mem_of_getElem? hbj)
          have htk : bs.take (j + 1) = bs.take j ++ [bs[j]] := by rw [List.take_add_one, hbj]; rfl
          have hsi : (setAll S (bs.take j) (stB v0 hw))[i]? = some v0 := by
            rw [setAll_ne _ _ _ _ fun z => by have := hbi i (List.mem_of_mem_take z); omega]
            exact hSi
          obtain ⟨sa, hsa, hsa3⟩ := hst4.2 i v0 hsi
          refine ⟨_, rfl, _, rfl, D, zs, _, _, rfl, rfl, .inl (.inl hz4), atI_nat hsa, _, rfl, xa, xv, _, _, rfl, rfl, Same.seqT (s4'.trans hide_le) hxs, hx0, sa, v0, hw, rfl, Same.seqT hide_le hsa3, fun H5 a5 s5 h5 => ⟨_, rfl, _, rfl, D, zs, _, bs[j], rfl, rfl, s5 _ _ hz4, ixN_nat0 ?_, ?_⟩⟩
          · rw [hst4.1, setAll_len]
            omega
          · refine ⟨?_, _, _, rfl, upd_same, ?_⟩
            · rw [hide_upd]
              exact s4'.trans (hide_same s5)
            · rw [hide_upd, htk, setAll_snoc]
              refine (hst4.same (hide_same s5)).set bs[j] ?_
              exact sqT_hide h5 (s5 _ _ hz4)
        · rintro σ H4 ⟨s4', zs, y5, rfl, hz4, hst4⟩
          rw [List.length_map, List.take_of_length_le (Nat.le_refl _)] at hst4
          exact ⟨s4', zs, _, _, _, _, rfl, hz4, hst4⟩
      · rintro σ H2 ⟨s2, zs2, y3, y4, y5, y6, rfl, hz2, hst2⟩
        rw [List.take_of_length_le (by rw [List.length_zip]; omega)] at hst2
        have hz2l : zs2.length - 1 = ps.length := by
          rw [hst2.1, runs_len, List.length_replicate]
          omega
        refine ⟨_, rfl, _, rfl, -1, rfl, D, zs2, rfl, .inl (.inl hz2), fun r hr => ?_⟩
        refine q _ r (zs2.take ps.length) ((s2.trans hide_le).trans (same_upd hr)) ?_ ((hst2.take ps.length).same (hide_le.trans (same_upd hr)))
        show upd H2 r (.lst (cutV zs2 none (some (-1)))) r = _
        rw [upd_same, cutM, hz2l]
end
end K05

namespace K05
open PySem PySem.Spec PyProof.Rows StX L2 TL GG OO LY
abbrev sLay_init : Stmt := inClass s_Layout 0
def layF (p l s : Addr) (n : Nat) : List (Str × V) := putF "standings" (.ref s) (putF "leads" (.ref l) (putF "end" (iN n) (putF "placed" (.ref p) [])))
/-- places lead onwards -/
theorem chain_at (e : Nat) : ∀ (n o i : Nat) (bs : List Nat), (chain e o n)[i]? = some bs → ∀ b ∈ bs, b = e ∨ (b = o + i + 1 ∧ b < o + n)
  | 0, _, _, _, h, _, _ => nomatch h
  | 1, o, i, bs, h, b, hb => by
    cases i with
    | zero =>
      obtain rfl := Option.some.inj h
      exact .inl (List.mem_singleton.mp hb)
    | succ i => cases h
  | n + 2, o, i, bs, h, b, hb => by
    cases i with
    | zero =>
      obtain rfl := Option.some.inj h
      have := List.mem_singleton.mp hb
      exact .inr ⟨by omega, by omega⟩
    | succ i =>
      rcases chain_at e (n + 1) (o + 1) i bs h b hb with h | ⟨h1, h2⟩
      · exact .inl h
      · exact .inr ⟨by omega, by omega⟩
theorem leads_fwd (e : Nat) : ∀ (r : List PyData) (o : Nat), o + (spread r).length ≤ e → ∀ (i : Nat) (bs : List Nat), (leads e o r)[i]? = some bs → ∀ b ∈ bs, o + i < b ∧ b ≤ e
  | [], _, _, _, _, h, _, _ => nomatch h
  | d :: r, o, he, i, bs, h, b, hb => by
    rw [spread_cons, List.length_cons, List.length_append] at he
    cases hw : wayOf d with
    | none =>
      have h1 : way d = [] := by unfold LY.way; rw [hw]; rfl
      rw [h1, List.length_nil] at he
      rw [leads_none hw] at h
      cases i with
      | zero =>
        obtain rfl := Option.some.inj h
        have := List.mem_singleton.mp hb
        omega
      | succ i =>
        have := leads_fwd e r (o + 1) (by omega) i bs h b hb
        omega
    | some w =>
      have h1 : way d = w := by unfold LY.way; rw [hw]; rfl
      rw [h1] at he
      rw [leads_some hw] at h
      cases i with
      | zero =>
        obtain rfl := Option.some.inj h
        rcases List.mem_cons.mp hb with rfl | hb
        · omega
        · have := List.mem_singleton.mp hb
          by_cases hz : w.length = 0
          · rw [if_pos hz] at this
            omega
          · rw [if_neg hz] at this
            omega
      | succ i =>
        have h : (chain e (o + 1) w.length ++ leads e (o + 1 + w.length) r)[i]? = some bs := h
        by_cases hi : i < w.length
        · rw [List.getElem?_append_left (by rw [chain_len]; exact hi)] at h
          have hk := chain_at e w.length (o + 1) i bs h b hb
          omega
        · rw [List.getElem?_append_right (by rw [chain_len]; omega), chain_len] at h
          have := leads_fwd e r (o + 1 + w.length) (by omega) (i - w.length) bs h b hb
          omega
section
variable {P : Program} {w : World} {K : PySem.W.Frag} {mg : Str → Option Value} {base : Heap} {lt0 lt1 lt2 lt3 lt4 : Tok} {t0 t1 t2 t3 t4 t5 t6 t7 t8 tF tO dC : Addr}
/-- the class Layout -/
structure LyT (K : PySem.W.Frag) (mg : Str → Option Value) (C : Addr) : Prop where
  mgC : mg "Layout" = some (.ref C)
  cl : Cls K C
  nP : NoAttr K C "placed"
  nE : NoAttr K C "end"
  nL : NoAttr K C "leads"
  nS : NoAttr K C "standings"
def stds (ds : List PyData) : List St3 := (runs (List.replicate ((spread ds).length + 1) ff3) 0 ((spread ds).zip (leads (spread ds).length 0 ds))).take (spread ds).length
def LayAt (K : PySem.W.Frag) (C : Addr) (H : Hp) (y : Addr) (ds : List PyData) : Prop := ∃ (dx p l s : Addr) (zs : List V), H y = some (.ins C dx (layF p l s (spread ds).length)) ∧ Dp K H (.ref p) (.tuple (spread ds)) ∧ Dp K H (.ref l) (.tuple ((leads (spread ds).length 0 ds).map ldD)) ∧ H s = some (.tup zs) ∧ StAll K H zs (stds ds)
def spLayI (K : PySem.W.Frag) (C : Addr) : Sp := fun vs H Q _ => ∃ (x dx : Addr) (y : V) (ds : List PyData), vs = [.ref x, y] ∧ H x = some (.ins C dx []) ∧ Dp K H y (.tuple ds) ∧ (∀ d ∈ ds, ItemD d) ∧ (∀ d ∈ spread ds, ItemD d) ∧ (spread ds).length ≤ 100 ∧ ∀ H', Keep x H H' → LayAt K C H' x ds → Q .non H'
theorem n_pl : ¬ (("placed" : Str) = "leads") := by decide +kernel
theorem n_pe : ¬ (("placed" : Str) = "end") := by decide +kernel
theorem sqT_keep {x : Addr} {H H' : Hp} {C dx a : Addr} {fs : List (Str × V)} {xs : List V} (k : Keep x H H') (hx : H x = some (.ins C dx fs)) (h : SqT K H a xs) : SqT K H' a xs := by
  rcases h with h | h
  · refine .inl ?_
    rcases h with h | ⟨o, h⟩
    · exact .inl (k a (fun z => by rw [z, hx] at h; cases h) _ h)
    · exact .inr ⟨o, k a (fun z => by rw [z, hx] at h; cases h) _ h⟩
  · exact .inr h
theorem keep_of {x : Addr} {H H' : Hp} (s : Same H H') : Keep x H H' := fun b _ o e => s b o e
theorem keep_tr {x : Addr} {H H1 H2 : Hp} (a : Keep x H H1) (b : Keep x H1 H2) : Keep x H H2 := fun c hc o e => b c hc o (a c hc o e)
theorem keep_same2 {x : Addr} {H H' : Hp} {o : HO} (s : Same H H') : Keep x H (upd H' x o) := fun b hb u e => by rw [upd_ne hb]; exact s b u e
theorem sc_lay_init : FnScope ["self", "parts"] ["self", "parts"] (defScope sLay_init) := ⟨rfl, rfl, rfl, by decide +kernel, rfl, by decide +kernel, by decide +kernel⟩
theorem ok_lay_init {C : Addr} {f : Addr} {fd : FuncData} (F : Fun K "__init__" "Layout.__init__" sLay_init f fd) (T : Txt K mg lt0 lt1 lt2 lt3 lt4 t0 t1 t2 t3 t4 t5 t6 t7 t8 tF tO dC) (CT : LyT K mg C) {f1 : Addr} {fd1 : FuncData} (F_spread : Fun K "_spread" "_spread" s_spread f1 fd1) (b_spread : Binds K fd1 ["parts"] []) (g_spread : mg "_spread" = some (.ref f1)) (G_spread : FnOk P w K mg base CX0 2 f1 fd1 ["parts"] (spSpread K)) {f2 : Addr} {fd2 : FuncData} (F_leads : Fun K "_leads" "_leads" s_leads f2 fd2) (b_leads : Binds K fd2 ["parts", "end"] []) (g_leads : mg "_leads" = some (.ref f2)) (G_leads : FnOk P w K mg base CX0 2 f2 fd2 ["parts", "end"] (spLeads K)) {f3 : Addr} {fd3 : FuncData} (F_standings : Fun K "_standings" "_standings" s_standings f3 fd3) (b_standings : Binds K fd3 ["placed", "leads"] []) (g_standings : mg "_standings" = some (.ref f3)) (G_standings : FnOk P w K mg base CX0 2 f3 fd3 ["placed", "leads"] (spStandings K)) : FnOk P w K mg base CX0 3 f fd ["self", "parts"] (spLayI K C) := by
  refine F.ok sc_lay_init (fun vs H Q E h => ?_) (fun cdv A outer s H vs Q E hr h => ?_)
  · obtain ⟨x, dx, y, ds, rfl, _⟩ := h
    rfl
  · obtain ⟨x, dx, y, ds, rfl, hx, hd, hi, hsi, hlen, q⟩ := h
    refine ⟨_, (pss_cons (ps_fld (pv 0) (pe_callTy call_tuple_of (by rfl) T.m_tuple (by decide +kernel) (pa_cons (pe_call G_spread hr (by rfl) g_spread F_spread.kp b_spread .nil pass0 (pa_cons (pv 1) pa_nil)) pa_nil)) rfl)
      (pss_cons (ps_fld (pv 0) (pe_callB call_len_seq (by rfl) T.m_len PySem.boot_len (pa_cons (pe_fld (pv 0) rfl) pa_nil)) rfl)
      (pss_cons (ps_fld (pv 0) (pe_callTy call_tuple_of (by rfl) T.m_tuple (by decide +kernel) (pa_cons (pe_call G_leads hr (by rfl) g_leads F_leads.kp b_leads .nil pass0 (pa_cons (pv 1) (pa_cons (pe_fld (pv 0) rfl) pa_nil))) pa_nil)) rfl)
      (pss_one (ps_fld (pv 0) (pe_callTy call_tuple_of (by rfl) T.m_tuple (by decide +kernel) (pa_cons (pe_call G_standings hr (by rfl) g_standings F_standings.kp b_standings .nil pass0 (pa_cons (pe_fld (pv 0) rfl) (pa_cons (pe_fld (pv 0) rfl) pa_nil))) pa_nil)) rfl))))), ?_⟩
    refine ⟨_, rfl, y, ds, rfl, hd, hi, hlen, fun H1 p1 ys s1 hp1 hys => ⟨p1, ys, rfl, .inl ⟨.inl (.inl hp1), fun p hp => ?_⟩⟩⟩
    have hx1 := s1 _ _ hx
    have hxp : x ≠ p := ne_of_none hx1 hp
    refine ⟨_, rfl, x, C, dx, [], rfl, (by rw [upd_ne hxp]; exact hx1), CT.cl, CT.nP, (by show 0 < 1000; decide), ?_⟩
    have k1 : Keep x H1 (upd (upd H1 p (.tup ys)) x (.ins C dx (putF "placed" (.ref p) []))) := keep_same2 (same_upd hp)
    have k2 : Keep x H (upd (upd H1 p (.tup ys)) x (.ins C dx (putF "placed" (.ref p) []))) := keep_tr (keep_of s1) k1
    have h2x : upd (upd H1 p (.tup ys)) x (.ins C dx (putF "placed" (.ref p) [])) x = some (.ins C dx (putF "placed" (.ref p) [])) := upd_same
    have h2p : upd (upd H1 p (.tup ys)) x (.ins C dx (putF "placed" (.ref p) [])) p = some (.tup ys) := by rw [upd_ne hxp.symm, upd_same]
    have hys2 := dpAll_keep k1 hx1 _ _ hys
    show tSeq _ _ _ _ (upd (upd H1 p (.tup ys)) x (.ins C dx (putF "placed" (.ref p) [])))
    generalize upd (upd H1 p (.tup ys)) x (.ins C dx (putF "placed" (.ref p) [])) = H2 at k1 k2 h2x h2p hys2 ⊢
    have hyl := dpAll_len hys2
    refine ⟨_, rfl, x, C, dx, _, _, rfl, h2x, CT.cl, CT.nP, (by rw [lookup_putF, if_pos rfl]), p, ys, rfl, .inr (.inl (.inl h2p)), ?_⟩
    refine ⟨_, rfl, x, C, dx, _, rfl, h2x, CT.cl, CT.nE, (by show 1 < 1000; decide), ?_⟩
    rw [hyl]
    generalize hn : (spread ds).length = n at hlen hyl ⊢
    have k3 : Keep x H2 (upd H2 x (.ins C dx (putF "end" (iN n) (putF "placed" (.ref p) [])))) := keep_same2 (Same.refl H2)
    have h3x : upd H2 x (.ins C dx (putF "end" (iN n) (putF "placed" (.ref p) []))) x = some (.ins C dx (putF "end" (iN n) (putF "placed" (.ref p) []))) := upd_same
    have h3p := k3 p hxp.symm _ h2p
    have hys3 := dpAll_keep k3 h2x _ _ hys2
    have kH3 := keep_tr k2 k3
    show tSeq _ _ _ _ (upd H2 x (.ins C dx (putF "end" (iN n) (putF "placed" (.ref p) []))))
    generalize upd H2 x (.ins C dx (putF "end" (iN n) (putF "placed" (.ref p) []))) = H3 at k3 h3x h3p hys3 kH3 ⊢
    refine ⟨_, rfl, _, rfl, x, C, dx, _, _, rfl, h3x, CT.cl, CT.nE, (by rw [lookup_putF, if_pos rfl]), y, ds, n, rfl, dp_keep kH3 hx _ _ hd, hi, (by omega), hlen, fun H4 p4 ys4 s4 hp4 hys4 => ⟨p4, ys4, rfl, .inl ⟨.inl (.inl hp4), fun l hl => ?_⟩⟩⟩
    have hx4 := s4 _ _ h3x
    have hxl : x ≠ l := ne_of_none hx4 hl
    refine ⟨_, rfl, x, C, dx, _, rfl, (by rw [upd_ne hxl]; exact hx4), CT.cl, CT.nL, (by show 2 < 1000; decide), ?_⟩
    subst hn
    have k5 : Keep x H4 (upd (upd H4 l (.tup ys4)) x (.ins C dx (putF "leads" (.ref l) (putF "end" (iN (spread ds).length) (putF "placed" (.ref p) []))))) := keep_same2 (same_upd hl)
    have h5x : upd (upd H4 l (.tup ys4)) x (.ins C dx (putF "leads" (.ref l) (putF "end" (iN (spread ds).length) (putF "placed" (.ref p) [])))) x = some (.ins C dx (putF "leads" (.ref l) (putF "end" (iN (spread ds).length) (putF "placed" (.ref p) [])))) := upd_same
    have h5l : upd (upd H4 l (.tup ys4)) x (.ins C dx (putF "leads" (.ref l) (putF "end" (iN (spread ds).length) (putF "placed" (.ref p) [])))) l = some (.tup ys4) := by rw [upd_ne hxl.symm, upd_same]
    generalize upd (upd H4 l (.tup ys4)) x (.ins C dx (putF "leads" (.ref l) (putF "end" (iN (spread ds).length) (putF "placed" (.ref p) [])))) = H5 at k5 h5x h5l ⊢
    have kH5 := keep_tr kH3 (keep_tr (keep_of s4) k5)
    have h5p := k5 p hxp.symm _ (s4 _ _ h3p)
    have d5p : Dp K H5 (.ref p) (.tuple (spread ds)) := .tup (.inl (.inl h5p)) (dpAll_keep k5 hx4 _ _ (dpAll_same s4 _ _ hys3))
    have d5l : Dp K H5 (.ref l) (.tuple ((leads (spread ds).length 0 ds).map ldD)) := .tup (.inl (.inl h5l)) (dpAll_keep k5 hx4 _ _ hys4)
    refine ⟨_, rfl, x, C, dx, _, _, rfl, h5x, CT.cl, CT.nP, (by rw [lookup_putF, if_neg n_pl, lookup_putF, if_neg n_pe, lookup_putF, if_pos rfl]), _, rfl, x, C, dx, _, _, rfl, h5x, CT.cl, CT.nL, (by rw [lookup_putF, if_pos rfl]), .ref p, .ref l, spread ds, leads (spread ds).length 0 ds, rfl, d5p, d5l, leads_len _ _ _, hsi, hlen, fun i bs hbs b hb => ?_, fun H6 p6 zs s6 hp6 hst => ⟨p6, zs, rfl, .inl ⟨.inl (.inl hp6), fun sa hsa => ?_⟩⟩⟩
    · have := leads_fwd (spread ds).length ds 0 (by omega) i bs hbs b hb
      omega
    have hx6 := s6 _ _ h5x
    have hxs : x ≠ sa := ne_of_none hx6 hsa
    refine ⟨_, rfl, x, C, dx, _, rfl, (by rw [upd_ne hxs]; exact hx6), CT.cl, CT.nS, (by show 3 < 1000; decide), q _ ?_ ?_⟩
    · exact keep_tr kH5 (keep_tr (keep_of s6) (keep_same2 (same_upd hsa)))
    · have k7 : Keep x H6 (upd (upd H6 sa (.tup zs)) x (.ins C dx (layF p l sa (spread ds).length))) := keep_same2 (same_upd hsa)
      refine ⟨dx, p, l, sa, zs, upd_same, dp_keep k7 hx6 _ _ (dp_same s6 _ _ d5p), dp_keep k7 hx6 _ _ (dp_same s6 _ _ d5l), ?_, hst.1, fun i t e => ?_⟩
      · show upd (upd H6 sa (.tup zs)) x (.ins C dx (layF p l sa (spread ds).length)) sa = _
        rw [upd_ne hxs.symm, upd_same]
      · obtain ⟨a, h1, h2⟩ := hst.2 i t e
        exact ⟨a, h1, sqT_keep k7 hx6 h2⟩
end
end K05

namespace K05
open PySem PySem.Spec PyProof.Rows StX L2 TL GG OO LY
theorem n_el : ¬ (("end" : Str) = "leads") := by decide +kernel
theorem n_ps : ¬ (("placed" : Str) = "standings") := by decide +kernel
theorem n_es : ¬ (("end" : Str) = "standings") := by decide +kernel
theorem n_ls : ¬ (("leads" : Str) = "standings") := by decide +kernel
theorem layF_p (p l s : Addr) (n : Nat) : (layF p l s n).lookup ("placed" : Str) = some (.ref p) := by unfold layF; rw [lookup_putF, if_neg n_ps, lookup_putF, if_neg n_pl, lookup_putF, if_neg n_pe, lookup_putF, if_pos rfl]
theorem layF_e (p l s : Addr) (n : Nat) : (layF p l s n).lookup ("end" : Str) = some (iN n) := by unfold layF; rw [lookup_putF, if_neg n_es, lookup_putF, if_neg n_el, lookup_putF, if_pos rfl]
theorem layF_l (p l s : Addr) (n : Nat) : (layF p l s n).lookup ("leads" : Str) = some (.ref l) := by unfold layF; rw [lookup_putF, if_neg n_ls, lookup_putF, if_pos rfl]
theorem layF_s (p l s : Addr) (n : Nat) : (layF p l s n).lookup ("standings" : Str) = some (.ref s) := by unfold layF; rw [lookup_putF, if_pos rfl]
section
variable {P : Program} {w : World} {K : PySem.W.Frag} {mg : Str → Option Value} {base : Heap} {lt0 lt1 lt2 lt3 lt4 : Tok} {t0 t1 t2 t3 t4 t5 t6 t7 t8 tF tO dC : Addr}
/-- a place of a layout, as it lies -/
structure PlAt (K : PySem.W.Frag) (C : Addr) (H : Hp) (y dx p l s : Addr) (n i : Nat) (d : PyData) (bs : List Nat) (t : St3) : Prop where
  at_ : H y = some (.ins C dx (layF p l s n))
  pl : ∃ ps v, SqT K H p ps ∧ ps[i]? = some v ∧ Dp K H v d
  ld : ∃ ls a, SqT K H l ls ∧ ls[i]? = some (V.ref a) ∧ SqT K H a (bs.map iN)
  st : ∃ zs a, SqT K H s zs ∧ zs[i]? = some (V.ref a) ∧ SqT K H a (v3 t)
theorem LayAt.at {C : Addr} {H : Hp} {y : Addr} {ds : List PyData} {i : Nat} {d : PyData} {bs : List Nat} {t : St3} (h : LayAt K C H y ds) (hd : (spread ds)[i]? = some d) (hb : (leads (spread ds).length 0 ds)[i]? = some bs) (ht : (stds ds)[i]? = some t) : ∃ dx p l s : Addr, PlAt K C H y dx p l s (spread ds).length i d bs t := by
  obtain ⟨dx, p, l, s, zs, h1, h2, h3, h4, h5⟩ := h
  refine ⟨dx, p, l, s, h1, ?_, ?_, ?_⟩
  · cases h2 with
    | tup a b =>
      have hl := dpAll_len b
      have hi := (List.getElem?_eq_some_iff.mp hd).1
      rename_i vs
      have hv : vs[i]? = some (vs[i]'(by omega)) := List.getElem?_eq_getElem (by omega)
      exact ⟨_, _, a, hv, dpAll_at b hv hd⟩
  · cases h3 with
    | tup a b =>
      have hl := dpAll_len b
      rw [List.length_map] at hl
      have hi := (List.getElem?_eq_some_iff.mp hb).1
      rename_i vs
      have hv : vs[i]? = some (vs[i]'(by omega)) := List.getElem?_eq_getElem (by omega)
      obtain ⟨a', e, hs⟩ := dp_ld (dpAll_at b hv (d := ldD bs) (by rw [List.getElem?_map, hb]; rfl))
      rw [e] at hv
      exact ⟨_, a', a, hv, hs⟩
  · obtain ⟨a, e, hs⟩ := h5.2 i t ht
    exact ⟨zs, a, .inl (.inl h4), e, hs⟩
theorem dp_sq {H : Hp} {a : Addr} (F : List Nat) (h : SqT K H a (F.map iN)) : Dp K H (.ref a) (ldD F) := by
  refine .tup h ?_
  have := dp_ints (K := K) (H := H) (F.map Int.ofNat)
  rw [List.map_map, List.map_map] at this
  exact this
theorem inV_iN (e : Nat) : ∀ bs : List Nat, inV (iN e) (bs.map iN) = decide (e ∈ bs)
  | [] => rfl
  | b :: bs => by
    have h := inV_iN e bs
    unfold inV at h ⊢
    rw [List.map_cons, List.any_cons, h, Bool.eq_iff_iff, Bool.or_eq_true, decide_eq_true_iff, decide_eq_true_iff, List.mem_cons]
    have : eqV (iN b) (iN e) = true ↔ e = b := by
      show decide (Int.ofNat b = Int.ofNat e) = true ↔ _
      rw [decide_eq_true_iff]
      exact ⟨fun z => (Int.ofNat.inj z).symm, fun z => by rw [z]⟩
    rw [this]
theorem flat_iN (bs : List Nat) : (bs.map iN).all flatV = true := by
  rw [List.all_map]
  exact List.all_eq_true.mpr fun _ _ => rfl
/-- whether the item may stand there -/
def mayB (n : Nat) (d : PyData) (bs : List Nat) (t : St3) : Bool := if headW d = "let" then decide (bs = [n]) else may t.2.1 t.2.2 (headW d)
/-- whether it ends with what it must not have -/
def endB (n : Nat) (d : PyData) (bs : List Nat) (t : St3) : Bool := decide (n ∈ bs) && ((stB t (headW d)).2.1 || (stB t (headW d)).2.2)
def spPl (K : PySem.W.Frag) (C : Addr) (g : Nat → PyData → List Nat → St3 → Bool) : Sp := fun vs H Q _ => ∃ (y dx p l s : Addr) (n i : Nat) (d : PyData) (bs : List Nat) (t : St3), vs = [.ref y, iN i] ∧ PlAt K C H y dx p l s n i d bs t ∧ ItemD d ∧ (headW d = "let" → ∃ x, bs = [x]) ∧ ∀ H', Same H H' → Q (.bl (g n d bs t)) H'
theorem eqv_one (a b : Nat) : PyData.eqv (ldD [a]) (ldD [b]) = decide ([a] = [b]) := by
  have e2 : PyData.eqv (ldD [a]) (ldD [b]) = ((Int.ofNat a == Int.ofNat b) && true) := rfl
  rw [e2, Bool.and_true, Bool.eq_iff_iff, decide_eq_true_eq]
  exact ⟨fun h => by rw [Int.ofNat.inj (eq_of_beq h)], fun h => by cases h; exact beq_self_eq_true _⟩
theorem sc_ends_badly : FnScope ["layout", "place", "_", "under", "locked"] ["layout", "place"] (defScope s_ends_badly) := ⟨rfl, rfl, rfl, by decide +kernel, rfl, by decide +kernel, by decide +kernel⟩
theorem ok_ends_badly {f : Addr} {fd : FuncData} (F : Fun K "_ends_badly" "_ends_badly" s_ends_badly f fd) (T : Txt K mg lt0 lt1 lt2 lt3 lt4 t0 t1 t2 t3 t4 t5 t6 t7 t8 tF tO dC) {C : Addr} (CT : LyT K mg C) {f1 : Addr} {fd1 : FuncData} (F_standing_behind : Fun K "_standing_behind" "_standing_behind" s_standing_behind f1 fd1) (b_standing_behind : Binds K fd1 ["standing", "word"] []) (g_standing_behind : mg "_standing_behind" = some (.ref f1)) (G_standing_behind : FnOk P w K mg base CX0 1 f1 fd1 ["standing", "word"] (spStB K)) : FnOk P w K mg base CX0 2 f fd ["layout", "place"] (spPl K C endB) := by
  refine F.ok sc_ends_badly (fun vs H Q E h => ?_) (fun cdv A outer s H vs Q E hr h => ?_)
  · obtain ⟨y, dx, p, l, s, n, i, d, bs, t, rfl, _⟩ := h
    rfl
  · obtain ⟨y, dx, p, l, s, n, i, d, bs, t, rfl, hp, hit, hlet, q⟩ := h
    refine ⟨_, (pss_cons (ps_if (pt_cmpR op_notIn_seq (pe_fld (pv 0) rfl) (pe_ix ix_tup (pe_fld (pv 0) rfl) (pv 1) (fun _ _ => rfl)) (by rfl)) 
          (pss_one (ps_ret pe_bl)) pss_nil) 
        (pss_cons (ps_asg (pe_call G_standing_behind hr (by rfl) g_standing_behind F_standing_behind.kp b_standing_behind .nil pass0 (pa_cons (pe_ix ix_tup (pe_fld (pv 0) rfl) (pv 1) (fun _ _ => rfl)) (pa_cons (pe_ix ix_tup (pe_ix ix_tup (pe_fld (pv 0) rfl) (pv 1) (fun _ _ => rfl)) pe_int (fun _ _ => rfl)) pa_nil))) (pg_tup rfl (pgs_cons (pg_name (i := 2) sc_ends_badly.nd rfl (.inl rfl)) (pgs_cons (pg_name (i := 3) sc_ends_badly.nd rfl (.inl rfl)) (pgs_cons (pg_name (i := 4) sc_ends_badly.nd rfl (.inl rfl)) pgs_nil))))) 
        (pss_one (ps_ret (pe_or (pv 3) (pe_one (pv 4))))))), ?_⟩
    obtain ⟨ps, v, hps, hv, hvd⟩ := hp.pl
    obtain ⟨ls, la, hls, hla, hlb⟩ := hp.ld
    obtain ⟨zs, za, hzs, hza, hzt⟩ := hp.st
    obtain ⟨hw, r5, rfl, hhd⟩ := hit.head
    obtain ⟨xa, xv, rfl, hxs, hx0⟩ := dp_head hvd
    refine ⟨_, rfl, y, C, dx, _, _, rfl, hp.at_, CT.cl, CT.nE, layF_e p l s n, _, rfl, y, C, dx, _, _, rfl, hp.at_, CT.cl, CT.nL, layF_l p l s n, _, rfl, l, ls, _, _, rfl, rfl, hls, atI_nat hla, la, _, rfl, .inr hlb, rfl, flat_iN bs, ?_⟩
    by_cases he : n ∈ bs
    · refine ⟨_, rfl, iteB (c := false) (by show (!inV (iN n) (bs.map iN)) = false; rw [inV_iN, decide_eq_true he]; rfl) (iteF ?_)⟩
      refine ⟨_, rfl, y, C, dx, _, _, rfl, hp.at_, CT.cl, CT.nS, layF_s p l s n, _, rfl, s, zs, _, _, rfl, rfl, hzs, atI_nat hza, _, rfl, y, C, dx, _, _, rfl, hp.at_, CT.cl, CT.nP, layF_p p l s n, _, rfl, p, ps, _, _, rfl, rfl, hps, atI_nat hv, xa, xv, _, _, rfl, rfl, hxs, hx0, za, t, hw, rfl, hzt, fun H1 a1 s1 h1 => ⟨a1, _, rfl, h1, rfl, _, _, rfl, _, _, rfl, _, _, rfl, rfl, ?_⟩⟩
      have q := q H1 s1
      unfold endB at q
      rw [decide_eq_true he, Bool.true_and, hhd] at q
      refine ⟨_, rfl, _, rfl, ite2 (fun h => ?_) (fun h => ?_)⟩
      · have h : (stB t hw).2.1 = true := h
        rw [h, Bool.true_or] at q
        exact q
      · have h : (stB t hw).2.1 = false := bf h
        rw [h, Bool.false_or] at q
        exact ⟨_, rfl, q⟩
    · refine ⟨_, rfl, iteB (c := true) (by show (!inV (iN n) (bs.map iN)) = true; rw [inV_iN, decide_eq_false he]; rfl) (iteT ?_)⟩
      have q := q H (Same.refl H)
      unfold endB at q
      rw [decide_eq_false he, Bool.false_and] at q
      exact q
theorem sc_may_stand : FnScope ["layout", "place", "word", "_", "under", "locked"] ["layout", "place"] (defScope s_may_stand) := ⟨rfl, rfl, rfl, by decide +kernel, rfl, by decide +kernel, by decide +kernel⟩
theorem ok_may_stand {f : Addr} {fd : FuncData} (F : Fun K "_may_stand" "_may_stand" s_may_stand f fd) (T : Txt K mg lt0 lt1 lt2 lt3 lt4 t0 t1 t2 t3 t4 t5 t6 t7 t8 tF tO dC) {C : Addr} (CT : LyT K mg C) : FnOk P w K mg base CX0 1 f fd ["layout", "place"] (spPl K C mayB) := by
  refine F.ok sc_may_stand (fun vs H Q E h => ?_) (fun cdv A outer s H vs Q E hr h => ?_)
  · obtain ⟨y, dx, p, l, s, n, i, d, bs, t, rfl, _⟩ := h
    rfl
  · obtain ⟨y, dx, p, l, s, n, i, d, bs, t, rfl, hp, hit, hlet, q⟩ := h
    refine ⟨_, (pss_cons (ps_set (i := 2) sc_may_stand.nd rfl (.inl rfl) (pe_ix ix_tup (pe_ix ix_tup (pe_fld (pv 0) rfl) (pv 1) (fun _ _ => rfl)) pe_int (fun _ _ => rfl))) 
        (pss_cons (ps_asg (pe_ix ix_tup (pe_fld (pv 0) rfl) (pv 1) (fun _ _ => rfl)) (pg_tup rfl (pgs_cons (pg_name (i := 3) sc_may_stand.nd rfl (.inl rfl)) (pgs_cons (pg_name (i := 4) sc_may_stand.nd rfl (.inl rfl)) (pgs_cons (pg_name (i := 5) sc_may_stand.nd rfl (.inl rfl)) pgs_nil))))) 
        (pss_cons (ps_if (pt_cmpR op_eq (pv 2) pe_str (nomark _)) 
          (pss_one (ps_ret (pe_not (pv 4)))) pss_nil) 
        (pss_cons (ps_if (pt_cmpR op_eq (pv 2) pe_str (nomark _)) 
          (pss_one (ps_ret (pv 4))) pss_nil) 
        (pss_cons (ps_if (pt_cmpR op_eq (pv 2) pe_str (nomark _)) 
          (pss_one (ps_ret (pe_not (pv 5)))) pss_nil) 
        (pss_cons (ps_if (pt_cmpR op_eq (pv 2) pe_str (nomark _)) 
          (pss_one (ps_ret (pv 5))) pss_nil) 
        (pss_one (ps_ret (pe_or (pe_cmpR op_ne (pv 2) pe_str (nomark _)) (pe_one (pe_cmpR (op_eqD hr.units) (pe_ix ix_tup (pe_fld (pv 0) rfl) (pv 1) (fun _ _ => rfl)) (pe_tup (pa_cons (pe_fld (pv 0) rfl) pa_nil)) (nomark _)))))))))))), ?_⟩
    obtain ⟨ps, v, hps, hv, hvd⟩ := hp.pl
    obtain ⟨ls, la, hls, hla, hlb⟩ := hp.ld
    obtain ⟨zs, za, hzs, hza, hzt⟩ := hp.st
    obtain ⟨hw, r5, rfl, hhd⟩ := hit.head
    obtain ⟨xa, xv, rfl, hxs, hx0⟩ := dp_head hvd
    have qm : headW (.tuple (.str hw :: r5)) ≠ "let" → ∀ H', Same H H' → Q (.bl (may t.2.1 t.2.2 hw)) H' := fun hn H' s' => by
      have := q H' s'
      unfold mayB at this
      rw [if_neg hn, hhd] at this
      exact this
    rw [hhd] at hlet qm
    refine ⟨_, rfl, y, C, dx, _, _, rfl, hp.at_, CT.cl, CT.nP, layF_p p l s n, _, rfl, p, ps, _, _, rfl, rfl, hps, atI_nat hv, xa, xv, _, _, rfl, rfl, hxs, hx0, ?_⟩
    refine ⟨_, rfl, y, C, dx, _, _, rfl, hp.at_, CT.cl, CT.nS, layF_s p l s n, _, rfl, s, zs, _, _, rfl, rfl, hzs, atI_nat hza, za, _, rfl, hzt, rfl, _, _, rfl, _, _, rfl, _, _, rfl, rfl, ?_⟩
    by_cases w1 : hw = "enter"
    · refine ⟨_, rfl, rfl, _, rfl, iteB (c := true) (decide_eq_true (by rw [w1])) (iteT ?_)⟩
      refine ⟨_, rfl, _, rfl, ?_⟩
      have q := qm (by rw [w1]; decide +kernel) H (Same.refl H)
      have e : may t.2.1 t.2.2 hw = (!t.2.1) := by rw [w1]; rfl
      rw [e] at q
      exact q
    refine ⟨_, rfl, rfl, _, rfl, iteB (c := false) (decide_eq_false fun z => w1 (V.str.inj z)) (iteF ?_)⟩
    by_cases w2 : hw = "leave"
    · refine ⟨_, rfl, rfl, _, rfl, iteB (c := true) (decide_eq_true (by rw [w2])) (iteT ?_)⟩
      refine ⟨_, rfl, ?_⟩
      have q := qm (by rw [w2]; decide +kernel) H (Same.refl H)
      have e : may t.2.1 t.2.2 hw = (t.2.1) := by rw [w2]; rfl
      rw [e] at q
      exact q
    refine ⟨_, rfl, rfl, _, rfl, iteB (c := false) (decide_eq_false fun z => w2 (V.str.inj z)) (iteF ?_)⟩
    by_cases w3 : hw = "lock"
    · refine ⟨_, rfl, rfl, _, rfl, iteB (c := true) (decide_eq_true (by rw [w3])) (iteT ?_)⟩
      refine ⟨_, rfl, _, rfl, ?_⟩
      have q := qm (by rw [w3]; decide +kernel) H (Same.refl H)
      have e : may t.2.1 t.2.2 hw = (!t.2.2) := by rw [w3]; rfl
      rw [e] at q
      exact q
    refine ⟨_, rfl, rfl, _, rfl, iteB (c := false) (decide_eq_false fun z => w3 (V.str.inj z)) (iteF ?_)⟩
    by_cases w4 : hw = "unlock"
    · refine ⟨_, rfl, rfl, _, rfl, iteB (c := true) (decide_eq_true (by rw [w4])) (iteT ?_)⟩
      refine ⟨_, rfl, ?_⟩
      have q := qm (by rw [w4]; decide +kernel) H (Same.refl H)
      have e : may t.2.1 t.2.2 hw = (t.2.2) := by rw [w4]; rfl
      rw [e] at q
      exact q
    refine ⟨_, rfl, rfl, _, rfl, iteB (c := false) (decide_eq_false fun z => w4 (V.str.inj z)) (iteF ?_)⟩
    by_cases w5 : hw = "let"
    · obtain ⟨x5, rfl⟩ := hlet w5
      refine ⟨_, rfl, rfl, _, rfl, iteB (c := false) (by rw [w5]; rfl) (iteF ?_)⟩
      refine ⟨_, rfl, y, C, dx, _, _, rfl, hp.at_, CT.cl, CT.nL, layF_l p l s n, _, rfl, l, ls, _, _, rfl, rfl, hls, atI_nat hla, _, rfl, y, C, dx, _, _, rfl, hp.at_, CT.cl, CT.nE, layF_e p l s n, Nat.le_of_lt (small1000 (by show 1 ≤ 1000; omega)), fun t1 ht1 => ?_⟩
      have s1 : Same H (upd H t1 (.tup [iN n])) := same_upd ht1
      refine ⟨ldD [x5], ldD [n], dp_sq [x5] (Same.seqT s1 hlb), dp_sq [n] (.inl (.inl upd_same)), rfl, rfl, ?_⟩
      rw [eqv_one]
      have q := q _ s1
      unfold mayB at q
      rw [if_pos (hhd.trans w5)] at q
      exact q
    · have e : (!decide (V.str hw = V.str "let")) = true := by rw [decide_eq_false fun z => w5 (V.str.inj z)]; rfl
      refine ⟨_, rfl, rfl, _, rfl, iteB (c := true) e (iteT ?_)⟩
      have q := qm w5 H (Same.refl H)
      have em : may t.2.1 t.2.2 hw = true := by
        unfold may
        rw [if_neg w1, if_neg w2, if_neg w3, if_neg w4]
      rw [em] at q
      exact q
end
end K05

namespace K05
open PySem PySem.Spec PyProof.Rows StX L2 TL GG OO LY
theorem inV_strs (z : Str) : ∀ ws : List Str, inV (.str z) (ws.map V.str) = decide (z ∈ ws)
  | [] => rfl
  | b :: bs => by
    have h := inV_strs z bs
    unfold inV at h ⊢
    rw [List.map_cons, List.any_cons, h, Bool.eq_iff_iff, Bool.or_eq_true, decide_eq_true_iff, decide_eq_true_iff, List.mem_cons]
    have : eqV (.str b) (.str z) = true ↔ z = b := by
      show decide (b = z) = true ↔ _
      rw [decide_eq_true_iff]
      exact ⟨fun z => z.symm, fun z => z.symm⟩
    rw [this]
theorem flat_strs (bs : List Str) : (bs.map V.str).all flatV = true := by
  rw [List.all_map]
  exact List.all_eq_true.mpr fun _ _ => rfl
section
variable {P : Program} {w : World} {K : PySem.W.Frag} {mg : Str → Option Value} {base : Heap} {lt0 lt1 lt2 lt3 lt4 : Tok} {t0 t1 t2 t3 t4 t5 t6 t7 t8 tF tO dC : Addr}
theorem PlAt.same {C : Addr} {H H' : Hp} {y dx p l s : Addr} {n i : Nat} {d : PyData} {bs : List Nat} {t : St3} (h : PlAt K C H y dx p l s n i d bs t) (k : Same H H') : PlAt K C H' y dx p l s n i d bs t := by
  obtain ⟨h1, ⟨ps, v, a1, a2, a3⟩, ⟨ls, a, b1, b2, b3⟩, ⟨zs, z, c1, c2, c3⟩⟩ := h
  exact ⟨k _ _ h1, ⟨ps, v, Same.seqT k a1, a2, dp_same k _ _ a3⟩, ⟨ls, a, Same.seqT k b1, b2, Same.seqT k b3⟩, ⟨zs, z, Same.seqT k c1, c2, Same.seqT k c3⟩⟩
/-- a place that is not let by -/
def badP (o : Nat) (ws : List Str) (n i : Nat) (d : PyData) (bs : List Nat) (t : St3) : Bool := (decide (o ≤ i) && decide (headW d ∈ ws)) || (!mayB n d bs t || endB n d bs t)
def spPlaces (K : PySem.W.Frag) (C S : Addr) : Sp := fun vs H Q E => ∃ (y dx p l s tw : Addr) (n o : Nat) (ws : List Str) (g : Nat → Option (PyData × List Nat × St3)), vs = [.ref y, iN o, .ref tw] ∧ H y = some (.ins C dx (layF p l s n)) ∧ SqT K H tw (ws.map V.str) ∧ (∃ ps, SqT K H p ps ∧ (∀ i, (g i).isSome = true → i < ps.length) ∧ ∀ i v, ps[i]? = some v → ∃ d bs t, g i = some (d, bs, t) ∧ PlAt K C H y dx p l s n i d bs t ∧ Dp K H v d ∧ ItemD d ∧ (headW d = "let" → ∃ x, bs = [x])) ∧
  ((∀ i d bs t, g i = some (d, bs, t) → badP o ws n i d bs t = false) → ∀ H', Same H H' → Q .non H') ∧
  ∀ i d bs t, g i = some (d, bs, t) → badP o ws n i d bs t = true → (∀ j d bs t, j < i → g j = some (d, bs, t) → badP o ws n j d bs t = false) → ∀ (a : Addr) (H' : Hp), H a = none → Same H H' → H' a = some (.xd [("number", iN i)]) → E (.ref S) (some a) H'
theorem sc_check_places : FnScope ["layout", "opening", "barred", "place", "item"] ["layout", "opening", "barred"] (defScope s_check_places) := ⟨rfl, rfl, rfl, by decide +kernel, rfl, by decide +kernel, by decide +kernel⟩
theorem ok_check_places {f : Addr} {fd : FuncData} (F : Fun K "check_places" "check_places" s_check_places f fd) (T : Txt K mg lt0 lt1 lt2 lt3 lt4 t0 t1 t2 t3 t4 t5 t6 t7 t8 tF tO dC) {C : Addr} (CT : LyT K mg C) {S fS : Addr} (TS : ExT K mg "InvalidItem" "number" S fS) {fdS : FuncData} (bS : Binds K fdS ["self", "number"] []) (GS : FnOk P w K mg base CX0 1 fS fdS ["self", "number"] (spExI S "number")) {f1 : Addr} {fd1 : FuncData} (F_may_stand : Fun K "_may_stand" "_may_stand" s_may_stand f1 fd1) (b_may_stand : Binds K fd1 ["layout", "place"] []) (g_may_stand : mg "_may_stand" = some (.ref f1)) (G_may_stand : FnOk P w K mg base CX0 1 f1 fd1 ["layout", "place"] (spPl K C mayB)) {f2 : Addr} {fd2 : FuncData} (F_ends_badly : Fun K "_ends_badly" "_ends_badly" s_ends_badly f2 fd2) (b_ends_badly : Binds K fd2 ["layout", "place"] []) (g_ends_badly : mg "_ends_badly" = some (.ref f2)) (G_ends_badly : FnOk P w K mg base CX0 2 f2 fd2 ["layout", "place"] (spPl K C endB)) : FnOk P w K mg base (L2.CX P w) 3 f fd ["layout", "opening", "barred"] (spPlaces K C S) := by
  refine F.okX sc_check_places (fun vs H Q E h => ?_) (fun cdv A outer s H vs Q E hr h => ?_)
  · obtain ⟨y, dx, p, l, s, tw, n, o, ws, gg, rfl, _⟩ := h
    rfl
  · obtain ⟨y, dx, p, l, s, tw, n, o, ws, gg, rfl, hy, htw, ⟨ps, hps, hlen, hall⟩, q, qe⟩ := h
    have hr2 : Room 2 _ := hr.mono (by decide)
    refine ⟨_, (pss_one (ps_for (passes_of rfl) rfl (pi_enumT (by rfl) T.m_enumerate (pa_cons (pe_fld (pv 0) rfl) pa_nil)) (pg_tup rfl (pgs_cons (pg_name (i := 3) sc_check_places.nd rfl (.inl rfl)) (pgs_cons (pg_name (i := 4) sc_check_places.nd rfl (.inl rfl)) pgs_nil))) 
          (pss_cons (ps_if (PW.pt (pw_and (pt_cmpR op_ge (pv 3) (pv 1) (nomark _)) (pw_and1 (pt_cmpR op_in_seq (pe_ix ix_tup (pv 4) pe_int (fun _ _ => rfl)) (pv 2) (by rfl))))) 
            (pss_one (ps_raise rfl (takes_of rfl rfl rfl rfl) (pmk_oex TS.o TS.i TS.t GS hr2 bS .nil pass0 rfl TS.g (pa_cons (pv 3) pa_nil)))) pss_nil) 
          (pss_one (ps_if (PW.pt (pw_or (pt_not (pt_val (pe_call G_may_stand (hr.mono (by decide)) (by rfl) g_may_stand F_may_stand.kp b_may_stand .nil pass0 (pa_cons (pv 0) (pa_cons (pv 3) pa_nil))))) (pw_or1 (pt_val (pe_call G_ends_badly hr (by rfl) g_ends_badly F_ends_badly.kp b_ends_badly .nil pass0 (pa_cons (pv 0) (pa_cons (pv 3) pa_nil))))))) 
            (pss_one (ps_raise rfl (takes_of rfl rfl rfl rfl) (pmk_oex TS.o TS.i TS.t GS hr2 bS .nil pass0 rfl TS.g (pa_cons (pv 3) pa_nil)))) pss_nil))))), ?_⟩

    refine ⟨_, rfl, y, C, dx, _, _, rfl, hy, CT.cl, CT.nP, layF_p p l s n, p, ps, rfl, hps, for_it walk_enumT (fun i σ H' => Same H H' ∧ (∀ j d bs t, j < i → gg j = some (d, bs, t) → badP o ws n j d bs t = false) ∧ ∃ y3 y4 : Option V, σ = [some (.ref y), some (iN o), some (.ref tw), y3, y4]) ⟨Same.refl H, fun j d bs t hj => by omega, _, _, rfl⟩ (fun i σ H' _ h => Same.seqT h.1 hps) ?_ ?_⟩
    · rintro i x σ H1 H1' hi ⟨s1, hfree, y3, y4, rfl⟩ ⟨t, u, v, rfl, ht, rfl, hu, hx⟩
      have eu : u = .int (i : Nat) := (Option.some.inj hu).symm
      subst eu
      obtain ⟨d, bs, t3, hg, hp, hvd, hit, hlet⟩ := hall i v hx
      have s2 : Same H (upd H1 t (.tup [.int (i : Nat), v])) := s1.trans (same_upd ht)
      obtain ⟨hw, r5, hde, hhd⟩ := hit.head
      have hvd2 := dp_same s2 _ _ hvd
      rw [hde] at hvd2
      obtain ⟨xa, xv, rfl, hxs, hx0⟩ := dp_head hvd2
      refine ⟨t, _, rfl, .inl (.inl upd_same), rfl, _, _, rfl, _, _, rfl, ?_⟩
      refine ⟨rfl, _, rfl, _, rfl, _, _, rfl, rfl, _, rfl, ?_⟩
      have hp2 := hp.same s2
      have hbad : ∀ (H3 : Hp), Same H H3 → badP o ws n i d bs t3 = true → ∀ a H', H3 a = none → Same H3 H' → H' a = some (.xd [("number", .int (i : Nat))]) → E (.ref S) (some a) H' := fun H3 s3 hb a H' h1 h2 h3 => qe i d bs t3 hg hb hfree a H' (s3.free h1) (s3.trans h2) h3
      have nxt : badP o ws n i d bs t3 = false → ∀ j d bs t, j < i + 1 → gg j = some (d, bs, t) → badP o ws n j d bs t = false := fun hb j d' bs' t' hj hg' => by
        by_cases e : j = i
        · subst e
          rw [hg] at hg'
          cases hg'
          exact hb
        · exact hfree j d' bs' t' (by omega) hg'
      have b1 : (!mayB n d bs t3) = true → badP o ws n i d bs t3 = true := fun hm => by
        unfold badP
        rw [hm, Bool.true_or, Bool.or_true]
      have b2 : endB n d bs t3 = true → badP o ws n i d bs t3 = true := fun he => by
        unfold badP
        rw [he, Bool.or_true, Bool.or_true]
      have b3 : (decide (o ≤ i) && decide (headW d ∈ ws)) = false → ¬ (!mayB n d bs t3) = true → ¬ endB n d bs t3 = true → badP o ws n i d bs t3 = false := fun h0 hm he => by
        unfold badP
        rw [h0, bf hm, bf he]
        rfl
      refine ite2 (fun h1 => ?_) (fun h1 => ?_)
      · have h1 : o ≤ i := by
          have : (i : Int) ≥ Int.ofNat o := of_decide_eq_true h1
          exact Int.ofNat_le.mp this
        refine ⟨_, rfl, xa, xv, _, _, rfl, rfl, hxs, hx0, _, rfl, tw, _, rfl, .inr (Same.seqT s2 htw), rfl, flat_strs ws, _, rfl, ite2 (fun hm => ?_) (fun hm => ?_)⟩
        · have hm : inV (.str hw) (ws.map V.str) = true := hm
          rw [inV_strs] at hm
          have hb : badP o ws n i d bs t3 = true := by
            unfold badP
            rw [decide_eq_true h1, hhd, hm]
            rfl
          exact ⟨_, rfl, mko (hbad _ s2 hb)⟩
        · have hm : inV (.str hw) (ws.map V.str) = false := bf hm
          rw [inV_strs] at hm
          have h0 : (decide (o ≤ i) && decide (headW d ∈ ws)) = false := by rw [hhd, hm, Bool.and_false]
          refine ⟨_, rfl, _, rfl, y, dx, p, l, s, n, i, d, bs, t3, rfl, hp2, hit, hlet, fun H3 s4 => ⟨_, rfl, ite2 (fun hm => ?_) (fun hm => ⟨_, rfl, _, rfl, y, dx, p, l, s, n, i, d, bs, t3, rfl, hp2.same s4, hit, hlet, fun H4 s5 => ⟨_, rfl, ite2 (fun he => ?_) (fun he => ⟨(s2.trans s4).trans s5, nxt (b3 h0 hm he), _, _, rfl⟩)⟩⟩)⟩⟩
          · exact ⟨_, rfl, mko (hbad _ (s2.trans s4) (b1 hm))⟩
          · exact ⟨_, rfl, mko (hbad _ ((s2.trans s4).trans s5) (b2 he))⟩
      · have h0 : (decide (o ≤ i) && decide (headW d ∈ ws)) = false := by
          have : ¬ o ≤ i := fun z => h1 (decide_eq_true (show (i : Int) ≥ Int.ofNat o from Int.ofNat_le.mpr z))
          rw [decide_eq_false this, Bool.false_and]
        refine ⟨_, rfl, _, rfl, y, dx, p, l, s, n, i, d, bs, t3, rfl, hp2, hit, hlet, fun H3 s4 => ⟨_, rfl, ite2 (fun hm => ?_) (fun hm => ⟨_, rfl, _, rfl, y, dx, p, l, s, n, i, d, bs, t3, rfl, hp2.same s4, hit, hlet, fun H4 s5 => ⟨_, rfl, ite2 (fun he => ?_) (fun he => ⟨(s2.trans s4).trans s5, nxt (b3 h0 hm he), _, _, rfl⟩)⟩⟩)⟩⟩
        · exact ⟨_, rfl, mko (hbad _ (s2.trans s4) (b1 hm))⟩
        · exact ⟨_, rfl, mko (hbad _ ((s2.trans s4).trans s5) (b2 he))⟩
    · rintro σ H1 ⟨s1, hfree, y3, y4, rfl⟩
      exact q (fun i d bs t hg => hfree i d bs t (hlen i (by rw [hg]; rfl)) hg) H1 s1
end
end K05

namespace K05
open PySem PySem.Spec PyProof.Rows StX L2 TL GG OO LY
section
variable {P : Program} {w : World} {K : PySem.W.Frag} {mg : Str → Option Value} {base : Heap} {lt0 lt1 lt2 lt3 lt4 : Tok} {t0 t1 t2 t3 t4 t5 t6 t7 t8 tF tO dC : Addr}
theorem way_nil {d : PyData} (h1 : isHeadP d = false) (h2 : isItemP d = true) : way d = [] := by
  unfold isItemP isWayItemP at h2
  rw [ask_head_of h1, Bool.or_false] at h2
  match d, h2 with
  | .tuple [_], _ => rfl
  | .tuple [_, _], _ => rfl
  | .tuple [a, b, c], h2 => cases a <;> cases h2
  | .tuple [], h2 => cases h2
  | .tuple (a :: b :: c :: e :: r), h2 => cases a <;> cases h2
def spCwo (K : PySem.W.Frag) (S : Addr) : Sp := fun vs H Q E => ∃ (x : V) (os : List PyData) (m : Int), vs = [x, .int m] ∧ Val K H x (.tuple os) ∧ ((∀ d ∈ os, isWayItemP d = true) → ∀ H', Same H H' → Q .non H') ∧
  ∀ (j : Nat) d, os[j]? = some d → isWayItemP d = false → (∀ i d, i < j → os[i]? = some d → isWayItemP d = true) → ∀ (a : Addr) (H' : Hp), H a = none → Same H H' → H' a = some (.xd [("number", .int (m + (j : Int)))]) → E (.ref S) (some a) H'
theorem sc_check_way_out : FnScope ["way_out", "number", "at", "item"] ["way_out", "number"] (defScope s_check_way_out) := ⟨rfl, rfl, rfl, by decide +kernel, rfl, by decide +kernel, by decide +kernel⟩
theorem ok_check_way_out {f : Addr} {fd : FuncData} (F : Fun K "_check_way_out" "_check_way_out" s_check_way_out f fd) (T : Txt K mg lt0 lt1 lt2 lt3 lt4 t0 t1 t2 t3 t4 t5 t6 t7 t8 tF tO dC) {S fS : Addr} (TS : ExT K mg "InvalidItem" "number" S fS) {fdS : FuncData} (bS : Binds K fdS ["self", "number"] []) (GS : FnOk P w K mg base CX0 1 fS fdS ["self", "number"] (spExI S "number")) {f1 : Addr} {fd1 : FuncData} (F_is_way_item : Fun K "is_way_item" "is_way_item" s_is_way_item f1 fd1) (b_is_way_item : Binds K fd1 ["value"] []) (g_is_way_item : mg "is_way_item" = some (.ref f1)) (G_is_way_item : FnOk P w K mg base CX0 3 f1 fd1 ["value"] (spChk K isWayItemP)) : FnOk P w K mg base (L2.CX P w) 4 f fd ["way_out", "number"] (spCwo K S) := by
  refine F.okX sc_check_way_out (fun vs H Q E h => ?_) (fun cdv A outer s H vs Q E hr h => ?_)
  · obtain ⟨x, os, m, rfl, _⟩ := h
    rfl
  · obtain ⟨x, os, m, rfl, hv, q, qe⟩ := h
    have hr2 : Room 2 _ := hr.mono (by decide)
    refine ⟨_, (pss_one (ps_for (passes_of rfl) rfl (pi_enumT (by rfl) T.m_enumerate (pa_cons (pv 0) pa_nil)) (pg_tup rfl (pgs_cons (pg_name (i := 2) sc_check_way_out.nd rfl (.inl rfl)) (pgs_cons (pg_name (i := 3) sc_check_way_out.nd rfl (.inl rfl)) pgs_nil))) 
          (pss_one (ps_if (pt_not (pt_val (pe_call G_is_way_item hr (by rfl) g_is_way_item F_is_way_item.kp b_is_way_item .nil pass0 (pa_cons (pv 3) pa_nil)))) 
            (pss_one (ps_raise rfl (takes_of rfl rfl rfl rfl) (pmk_oex TS.o TS.i TS.t GS hr2 bS .nil pass0 rfl TS.g (pa_cons (pe_op op_add (pv 1) (pv 2)) pa_nil)))) pss_nil)))), ?_⟩
    obtain ⟨b, xs, rfl, hs, ha, hl, h1000, hget⟩ := hv.tup
    refine ⟨_, rfl, b, xs, rfl, hs, for_it walk_enumT (fun i σ H' => Same H H' ∧ (∀ k d, k < i → os[k]? = some d → isWayItemP d = true) ∧ ∃ y3 y4 : Option V, σ = [some (.ref b), some (.int m), y3, y4]) ⟨Same.refl H, fun k d hk => by omega, _, _, rfl⟩ (fun i σ H' _ h => Same.seqT h.1 hs) ?_ ?_⟩
    · rintro i x σ H1 H1' hi ⟨s1, hfree, y3, y4, rfl⟩ ⟨t, u, v, rfl, ht, rfl, hu, hx⟩
      have eu : u = .int (i : Nat) := (Option.some.inj hu).symm
      subst eu
      have hid : i < os.length := by omega
      have hdi : os[i]? = some os[i] := List.getElem?_eq_getElem hid
      obtain ⟨v', hxv, hvd⟩ := hget i _ hdi
      have e : v = v' := Option.some.inj (hx.symm.trans hxv)
      subst e
      have s2 : Same H (upd H1 t (.tup [.int (i : Nat), v])) := s1.trans (same_upd ht)
      refine ⟨t, _, rfl, .inl (.inl upd_same), rfl, _, _, rfl, _, _, rfl, ?_⟩
      refine ⟨rfl, _, rfl, v, os[i], rfl, hvd.same s2, fun H3 s3 => ⟨_, rfl, ite2 (fun hw => ?_) (fun hw => ?_)⟩⟩
      · have hw : isWayItemP os[i] = false := by rw [← Bool.not_eq_true']; exact hw
        exact ⟨_, rfl, _, rfl, _, _, rfl, rfl, mko fun a H' h1 h2 h3 => qe i _ hdi hw hfree a H' ((s2.trans s3).free h1) ((s2.trans s3).trans h2) h3⟩
      · have hw : isWayItemP os[i] = true := by
          cases h : isWayItemP os[i]
          · exact absurd (by rw [h]; rfl) hw
          · rfl
        refine ⟨s2.trans s3, fun k d hk hd => ?_, _, _, rfl⟩
        by_cases e : k = i
        · subst e
          rw [hdi] at hd
          cases hd
          exact hw
        · exact hfree k d (by omega) hd
    · rintro σ H1 ⟨s1, hfree, y3, y4, rfl⟩
      exact q (fun d hd => by
        obtain ⟨k, hk⟩ := List.getElem?_of_mem hd
        exact hfree k d (by have := (List.getElem?_eq_some_iff.mp hk).1; omega) hk) H1 s1
def itOk (d : PyData) : Prop := (isHeadP d = true ∧ ∀ z ∈ way d, isWayItemP z = true) ∨ (isHeadP d = false ∧ isItemP d = true ∧ way d = [])
def spItems (K : PySem.W.Frag) (S : Addr) : Sp := fun vs H Q E => ∃ (x : V) (ds : List PyData), vs = [x] ∧ Val K H x (.tuple ds) ∧
  ((∀ d ∈ ds, itOk d) → 1 ≤ (spread ds).length → (spread ds).length ≤ 14 → ∀ H', Same H H' → Q .non H') ∧
  ((∀ d ∈ ds, itOk d) → ¬ (1 ≤ (spread ds).length ∧ (spread ds).length ≤ 14) → ∀ (a : Addr) (H' : Hp), H a = none → Same H H' → H' a = some (.xd [("number", .non)]) → E (.ref S) (some a) H') ∧
  ∀ (i : Nat) d, ds[i]? = some d → (∀ j d, j < i → ds[j]? = some d → itOk d) →
    (isHeadP d = true → ∀ (j : Nat) z, (way d)[j]? = some z → isWayItemP z = false → (∀ k z, k < j → (way d)[k]? = some z → isWayItemP z = true) → ∀ (a : Addr) (H' : Hp), H a = none → Same H H' → H' a = some (.xd [("number", iN ((spread (ds.take i)).length + 1 + j))]) → E (.ref S) (some a) H') ∧
    (isHeadP d = false → isItemP d = false → ∀ (a : Addr) (H' : Hp), H a = none → Same H H' → H' a = some (.xd [("number", iN (spread (ds.take i)).length)]) → E (.ref S) (some a) H')
theorem sc_check_items : FnScope ["parts", "number", "part"] ["parts"] (defScope s_check_items) := ⟨rfl, rfl, rfl, by decide +kernel, rfl, by decide +kernel, by decide +kernel⟩
theorem ok_check_items {f : Addr} {fd : FuncData} (F : Fun K "check_items" "check_items" s_check_items f fd) (T : Txt K mg lt0 lt1 lt2 lt3 lt4 t0 t1 t2 t3 t4 t5 t6 t7 t8 tF tO dC) {S fS : Addr} (TS : ExT K mg "InvalidItem" "number" S fS) {fdS : FuncData} (bS : Binds K fdS ["self", "number"] []) (GS : FnOk P w K mg base CX0 1 fS fdS ["self", "number"] (spExI S "number")) {f1 : Addr} {fd1 : FuncData} (F_check_way_out : Fun K "_check_way_out" "_check_way_out" s_check_way_out f1 fd1) (b_check_way_out : Binds K fd1 ["way_out", "number"] []) (g_check_way_out : mg "_check_way_out" = some (.ref f1)) (G_check_way_out : FnOk P w K mg base (L2.CX P w) 4 f1 fd1 ["way_out", "number"] (spCwo K S)) {f2 : Addr} {fd2 : FuncData} (F_is_ask_head : Fun K "is_ask_head" "is_ask_head" s_is_ask_head f2 fd2) (b_is_ask_head : Binds K fd2 ["value"] []) (g_is_ask_head : mg "is_ask_head" = some (.ref f2)) (G_is_ask_head : FnOk P w K mg base CX0 2 f2 fd2 ["value"] (spChk K isHeadP)) {f3 : Addr} {fd3 : FuncData} (F_is_item : Fun K "is_item" "is_item" s_is_item f3 fd3) (b_is_item : Binds K fd3 ["value"] []) (g_is_item : mg "is_item" = some (.ref f3)) (G_is_item : FnOk P w K mg base CX0 6 f3 fd3 ["value"] (spChk K isItemP)) : FnOk P w K mg base (L2.CX P w) 7 f fd ["parts"] (spItems K S) := by
  refine F.okX sc_check_items (fun vs H Q E h => ?_) (fun cdv A outer s H vs Q E hr h => ?_)
  · obtain ⟨x, ds, rfl, _⟩ := h
    rfl
  · obtain ⟨x, ds, rfl, hv, q, qn, qe⟩ := h
    have hr2 : Room 2 _ := hr.mono (by decide)
    refine ⟨_, (pss_cons (ps_set (i := 1) sc_check_items.nd rfl (.inl rfl) pe_int) 
        (pss_cons (ps_for (passes_of rfl) rfl (pi_tup (pv 0)) (pg_name (i := 2) sc_check_items.nd rfl (.inl rfl)) 
          (pss_cons (ps_if (pt_val (pe_call G_is_ask_head (hr.mono (by decide)) (by rfl) g_is_ask_head F_is_ask_head.kp b_is_ask_head .nil pass0 (pa_cons (pv 2) pa_nil))) 
            (pss_cons (ps_expr (pe_call G_check_way_out (hr.mono (by decide)) (by rfl) g_check_way_out F_check_way_out.kp b_check_way_out .nil (passX (takes_of rfl rfl rfl rfl)) (pa_cons (pe_ix ix_tup (pv 2) pe_int (fun _ _ => rfl)) (pa_cons (pe_op op_add (pv 1) pe_int) pa_nil)))) 
            (pss_one (ps_set (i := 1) sc_check_items.nd rfl (.inl rfl) (pe_op op_add (pv 1) (pe_callB call_len_seq (by rfl) T.m_len PySem.boot_len (pa_cons (pe_ix ix_tup (pv 2) pe_int (fun _ _ => rfl)) pa_nil)))))) 
            (pss_one (ps_if (pt_not (pt_val (pe_call G_is_item hr (by rfl) g_is_item F_is_item.kp b_is_item .nil pass0 (pa_cons (pv 2) pa_nil)))) 
              (pss_one (ps_raise rfl (takes_of rfl rfl rfl rfl) (pmk_oex TS.o TS.i TS.t GS hr2 bS .nil pass0 rfl TS.g (pa_cons (pv 1) pa_nil)))) pss_nil))) 
          (pss_one (ps_set (i := 1) sc_check_items.nd rfl (.inl rfl) (pe_op op_add (pv 1) pe_int))))) 
        (pss_one (ps_if (pt_not (pt_chain op_le op_le pe_int (pv 1) (pe_glob (v := .int 14) rfl T.c_MOST_ITEMS ⟨_, rfl⟩))) 
          (pss_one (ps_raise rfl (takes_of rfl rfl rfl rfl) (pmk_oex TS.o TS.i TS.t GS hr2 bS .nil pass0 rfl TS.g (pa_cons pe_non pa_nil)))) pss_nil)))), ?_⟩
    obtain ⟨b, xs, rfl, hs, ha, hl, h1000, hget⟩ := hv.tup
    refine ⟨_, rfl, b, rfl, ⟨_, hs⟩, for_it (walk_tup (xs := xs)) (fun i σ H' => Same H H' ∧ (∀ k d, k < i → ds[k]? = some d → itOk d) ∧ ∃ y2 : Option V, σ = [some (.ref b), some (iN (spread (ds.take i)).length), y2]) ⟨Same.refl H, fun k d hk => by omega, _, rfl⟩ (fun i σ H' _ h => Same.seqT h.1 hs) ?_ ?_⟩
    · rintro i x σ _ H1 hi ⟨s1, hfree, y2, rfl⟩ ⟨rfl, hx⟩
      have hid : i < ds.length := by omega
      have hdi : ds[i]? = some ds[i] := List.getElem?_eq_getElem hid
      obtain ⟨v', hxv, hvd⟩ := hget i _ hdi
      have e : x = v' := Option.some.inj (hx.symm.trans hxv)
      subst e
      have htake : (spread (ds.take (i + 1))).length = (spread (ds.take i)).length + (way ds[i]).length + 1 := by
        rw [List.take_add_one, hdi]
        show (spread (ds.take i ++ [ds[i]])).length = _
        rw [spread_snoc, List.length_append, List.length_cons]
        omega
      obtain ⟨qe1, qe2⟩ := qe i _ hdi hfree
      have nxt : itOk ds[i] → ∀ k d, k < i + 1 → ds[k]? = some d → itOk d := fun hok k d hk hd => by
        by_cases e : k = i
        · subst e
          rw [hdi] at hd
          cases hd
          exact hok
        · exact hfree k d (by omega) hd
      rw [htake]
      generalize (spread (ds.take i)).length = m at qe1 qe2
      generalize ds[i] = d at hvd qe1 qe2 nxt ⊢
      refine ⟨_, rfl, x, d, rfl, hvd.same s1, fun H2 s2 => ⟨_, rfl, ite2 (fun hh => ?_) (fun hh => ?_)⟩⟩
      · obtain ⟨w1, m1, os, rfl, _, _⟩ := ask_split hh
        obtain ⟨a, zs, rfl, hzs, _, _, _, hg⟩ := (hvd.same (s1.trans s2)).tup
        obtain ⟨v2, hz2, hv2⟩ := hg 2 _ rfl
        obtain ⟨b3, ys3, eb3, hs3, _, hl3, _, _⟩ := hv2.tup
        refine ⟨_, rfl, a, zs, _, v2, rfl, rfl, hzs, atI_nat (j := 2) hz2, _, rfl, _, _, rfl, rfl, v2, os, _, rfl, hv2, fun hw H3 s3 => ?_, fun j z hj hz hk a H' h1 h2 h3 => ?_⟩
        · subst eb3
          refine ⟨_, rfl, _, rfl, a, zs, _, _, rfl, rfl, Same.seqT s3 hzs, atI_nat (j := 2) hz2, b3, ys3, rfl, .inr (Same.seqT s3 hs3), _, _, rfl, rfl, _, rfl, _, _, rfl, rfl, (s1.trans s2).trans s3, nxt (.inl ⟨hh, hw⟩), some (.ref a), ?_⟩
          rw [hl3]
          rfl
        · refine qe1 hh j z hj hz hk a H' ((s1.trans s2).free h1) ((s1.trans s2).trans h2) ?_
          rw [h3]
          rfl
      · have hh : isHeadP d = false := bf hh
        refine ⟨_, rfl, x, d, rfl, hvd.same (s1.trans s2), fun H3 s3 => ⟨_, rfl, ite2 (fun hi2 => ?_) (fun hi2 => ?_)⟩⟩
        · have hi2 : isItemP d = false := by rw [← Bool.not_eq_true']; exact hi2
          exact ⟨_, rfl, mko fun a H' h1 h2 h3 => qe2 hh hi2 a H' (((s1.trans s2).trans s3).free h1) (((s1.trans s2).trans s3).trans h2) h3⟩
        · have hi2 : isItemP d = true := by
            cases h : isItemP d
            · exact absurd (by rw [h]; rfl) hi2
            · rfl
          have hw := way_nil hh hi2
          refine ⟨_, rfl, _, _, rfl, rfl, (s1.trans s2).trans s3, nxt (.inr ⟨hh, hi2, hw⟩), some x, ?_⟩
          rw [hw]
          rfl
    · rintro σ H1 ⟨s1, hfree, y2, rfl⟩
      rw [List.take_of_length_le (by omega)]
      have hall : ∀ d ∈ ds, itOk d := fun d hd => by
        obtain ⟨k, hk⟩ := List.getElem?_of_mem hd
        exact hfree k d (by have := (List.getElem?_eq_some_iff.mp hk).1; omega) hk
      refine ⟨_, rfl, _, _, rfl, rfl, _, rfl, ite2 (fun h1 => ⟨_, _, rfl, rfl, _, rfl, ite2 (fun h2 => ?_) (fun h2 => ?_)⟩) (fun h1 => ?_)⟩
      · have h2 : ¬ ((spread ds).length : Int) ≤ 14 := by
          have h2 : (!decide (((spread ds).length : Nat) ≤ (14 : Int))) = true := h2
          rw [Bool.not_eq_true'] at h2
          exact of_decide_eq_false h2
        exact mko fun a H' g1 g2 g3 => qn hall (fun z => h2 (by omega)) a H' (s1.free g1) (s1.trans g2) g3
      · have h1 : (1 : Int) ≤ ((spread ds).length : Nat) := of_decide_eq_true h1
        have h2 : ((spread ds).length : Int) ≤ 14 := by
          have h2 : ¬ (!decide (((spread ds).length : Nat) ≤ (14 : Int))) = true := h2
          rw [Bool.not_eq_true'] at h2
          exact Decidable.byContradiction fun z => h2 (decide_eq_false z)
        exact q hall (by omega) (by omega) H1 s1
      · have h1 : ¬ (1 : Int) ≤ ((spread ds).length : Nat) := fun z => h1 (decide_eq_true z)
        exact ⟨_, rfl, iteT (mko fun a H' g1 g2 g3 => qn hall (fun z => h1 (by omega)) a H' (s1.free g1) (s1.trans g2) g3)⟩
end
end K05

namespace K05
open PySem PySem.Spec PyProof.Rows StX L2 TL GG OO LY
def opens : List (List Str) := [["look", "hold"], ["look", "try"], ["lock", "look", "hold", "unlock"], ["lock", "look", "try", "unlock"], ["lock", "look", "unlock", "hold"], ["lock", "look", "unlock", "try"]]
def strsD (ws : List Str) : PyData := .tuple (ws.map PyData.str)
theorem opens_in : (opens.all fun op => (List.range op.length).all fun i => ((opens.map strsD).any fun z => PyData.eqv z (strsD (op.take (i + 1)))) == decide (i + 1 = op.length)) = true := by decide +kernel
theorem opens_any : (opens.all fun op => (List.range op.length).all fun i => ((opens.map fun o => PyData.eqv (strsD (op.take (i + 1))) (strsD (o.take (i + 1))))).any id) = true := by decide +kernel
theorem opens_lenR : (opens.all fun op => decide (1 ≤ op.length ∧ op.length ≤ 4)) = true := by decide +kernel
theorem opens_sh : (opens.all fun op => (List.range 5).all fun i => SeqAt.shaped (strsD (op.take i))) = true := by decide +kernel
theorem opens_sh2 : SeqAt.shaped (.tuple (opens.map strsD)) = true := by decide +kernel
theorem cutG_take (ds : List PyData) (m : Nat) : cutG ds none (some (m : Int)) = ds.take m := by
  unfold cutG
  rw [HT.sIx_none, HT.sIx_nat, List.drop_zero, Nat.sub_zero]
  by_cases h : m ≤ ds.length
  · rw [Nat.min_eq_left h]
  · rw [Nat.min_eq_right (by omega), List.take_of_length_le (Nat.le_refl _), List.take_of_length_le (by omega)]
section
variable {P : Program} {w : World} {K : PySem.W.Frag} {mg : Str → Option Value} {base : Heap} {lt0 lt1 lt2 lt3 lt4 : Tok} {t0 t1 t2 t3 t4 t5 t6 t7 t8 tF tO dC : Addr}
theorem slD0 {H : Hp} {v : V} {ds : List PyData} {m : Nat} {Q : VK} (hv : Dp K H v (.tuple ds)) (hq : ∀ x H', Same H H' → Dp K H' x (.tuple (ds.take m)) → Q x H') : rSlA K v none (some (m : Int)) H Q := by
  cases hv with
  | @tup a xs _ hs ha =>
    have l1 := dpAll_len ha
    refine ⟨a, xs, rfl, hs, fun e => ?_, fun _ t ht => ?_⟩
    · have e2 : cutG ds none (some (m : Int)) = ds := by
        unfold cutG
        rw [← l1, e.1, e.2, l1]
        show (ds.drop 0).take (ds.length - 0) = ds
        rw [List.drop_zero, Nat.sub_zero, List.take_length]
      have := hq (.ref a) H (Same.refl H)
      rw [← cutG_take, e2] at this
      exact this (.tup hs ha)
    · refine hq _ _ (same_upd ht) ?_
      rw [← cutG_take]
      exact .tup (.inl (.inl upd_same)) (dpAll_same (same_upd ht) _ _ (dpAll_cut ha none (some (m : Int))))
theorem slN2 {a b c d : Option V} {i : Nat} {H : Hp} {v : V} {ds : List PyData} {Q : VK} (hv : Dp K H v (.tuple ds)) (hq : ∀ x H', Same H H' → Dp K H' x (.tuple (ds.take (1 + i))) → Q x H') : tNoPart [a, b, some (.int (1 + (i : Int))), c, d] H (fun l H2 => tPart (tVar 2) [a, b, some (.int (1 + (i : Int))), c, d] H2 fun u H3 => rSlA K v l u H3 Q) := ⟨_, rfl, _, rfl, slD0 (m := 1 + i) hv hq⟩
theorem slN1 {σ : L2.St} {H : Hp} {v : V} {ds : List PyData} {Q : VK} (hv : Dp K H v (.tuple ds)) (hq : ∀ x H', Same H H' → Dp K H' x (.tuple (ds.take 4)) → Q x H') : tNoPart σ H (fun l H2 => tPart (tC (.int 4)) σ H2 fun u H3 => rSlA K v l u H3 Q) := ⟨4, rfl, slD0 (m := 4) hv hq⟩
theorem room65x {k : Nat} {A : Around} (r : Room k A) : A.units + 65 < cLine := by
  have := r.un
  omega
/-- the words of items -/
abbrev wAll : List Str := ["look", "hold", "try", "let", "enter", "leave", "touch", "use", "lock", "unlock", "start", "ask"]
def inO (W : List Str) (m : Nat) : Bool := opens.any fun o => decide (W.take m = o)
def preO (W : List Str) (m : Nat) : Bool := opens.any fun o => decide (W.take m = o.take m)
/-- going through the words from the m-th on: how many open, or where it goes wrong -/
def openG (W : List Str) : Nat → Nat → Nat ⊕ Option Nat
  | 0, _ => .inr none
  | f + 1, m => if inO W m = true then .inl m else if preO W m = true then openG W f (m + 1) else .inr (some (m - 1))
def openF (W : List Str) : Nat ⊕ Option Nat := openG W (min 4 W.length) 1
def numV : Option Nat → V
  | some n => iN n
  | none => .non
theorem strs_tup {ws : List Str} (h : ∀ w ∈ ws, w ∈ wAll) : SeqAt.shaped (strsD ws) = true := by
  have hs : ∀ y ∈ ws, Sane y := fun y hy => by
    have := h y hy
    simp only [List.mem_cons, List.not_mem_nil, or_false] at this
    rcases this with rfl | rfl | rfl | rfl | rfl | rfl | rfl | rfl | rfl | rfl | rfl | rfl <;> (unfold Sane; decide +kernel)
  obtain ⟨h1, h2⟩ := strs_can ws hs
  unfold SeqAt.shaped
  rw [Bool.and_eq_true, decide_eq_true_eq]
  refine ⟨h1, ?_⟩
  show PyData.depthAll (ws.map PyData.str) + 1 ≤ 64
  omega
theorem openG_take (W : List Str) : ∀ f m, m + f ≤ 5 → openG W f m = openG (W.take 4) f m
  | 0, _, _ => rfl
  | f + 1, m, h => by
    have e : (W.take 4).take m = W.take m := by rw [List.take_take, Nat.min_eq_left (by omega)]
    have e1 : inO (W.take 4) m = inO W m := by unfold inO; rw [e]
    have e2 : preO (W.take 4) m = preO W m := by unfold preO; rw [e]
    show (if inO W m = true then _ else if preO W m = true then openG W f (m + 1) else _) = (if inO (W.take 4) m = true then _ else if preO (W.take 4) m = true then openG (W.take 4) f (m + 1) else _)
    rw [e1, e2, openG_take W f (m + 1) (by omega)]
theorem openF_take (W : List Str) : openF W = openG (W.take 4) (W.take 4).length 1 := by
  unfold openF
  rw [List.length_take, openG_take W _ 1 (by omega)]
theorem eqv_strsT (xs ys : List Str) : PyData.eqv (strsD xs) (strsD ys) = decide (xs = ys) := by
  rw [Bool.eq_iff_iff, decide_eq_true_eq]
  exact eqv_strs xs ys
def spOpen (K : PySem.W.Frag) (S tO : Addr) : Sp := fun vs H Q E => ∃ (x : V) (ds : List PyData), vs = [x] ∧ Dp K H x (.tuple ds) ∧ (∀ d ∈ ds, ItemD d ∧ headW d ∈ wAll) ∧ (∀ H, Dp K H (.ref tO) (.tuple (opens.map strsD))) ∧
  (∀ m, openF (ds.map headW) = .inl m → ∀ H', Same H H' → Q (iN m) H') ∧ ∀ r, openF (ds.map headW) = .inr r → ∀ (a : Addr) (H' : Hp), H a = none → Same H H' → H' a = some (.xd [("number", numV r)]) → E (.ref S) (some a) H'
theorem take_snoc {α : Type} {A : List α} {j : Nat} (h : j < A.length) : A.take (j + 1) = A.take j ++ [A[j]] := by rw [List.take_add_one, List.getElem?_eq_getElem h]; rfl
theorem sc_opening_of : FnScope ["parts", "words", "many", "part", "opening"] ["parts"] (defScope s_opening_of) := ⟨rfl, rfl, rfl, by decide +kernel, rfl, by decide +kernel, by decide +kernel⟩
theorem ok_opening_of {f : Addr} {fd : FuncData} (F : Fun K "opening_of" "opening_of" s_opening_of f fd) (T : Txt K mg lt0 lt1 lt2 lt3 lt4 t0 t1 t2 t3 t4 t5 t6 t7 t8 tF tO dC) {S fS : Addr} (TS : ExT K mg "InvalidItem" "number" S fS) {fdS : FuncData} (bS : Binds K fdS ["self", "number"] []) (GS : FnOk P w K mg base CX0 1 fS fdS ["self", "number"] (spExI S "number")) : FnOk P w K mg base (L2.CX P w) 3 f fd ["parts"] (spOpen K S tO) := by
  refine F.okX sc_opening_of (fun vs H Q E h => ?_) (fun cdv A outer s H vs Q E hr h => ?_)
  · obtain ⟨x, ds, rfl, _⟩ := h
    rfl
  · obtain ⟨x, ds, rfl, hd, hit, hO, q, qe⟩ := h
    have hr2 : Room 2 _ := hr
    refine ⟨_, (pss_cons (ps_set (i := 1) sc_opening_of.nd rfl (.inr rfl) (pe_callTy call_tuple_of (by rfl) T.m_tuple (by decide +kernel) (pa_cons (pe_lc (own := [("part", 3)]) (g := gName 3) rfl sc_opening_of.nd (pi_tup (pe_slice sl_tupA (pv 0) po_none (po_some (pe_glob (v := .int 4) rfl T.c_LONGEST_OPENING ⟨_, rfl⟩)))) (blkOk_by (N := ["parts", "words", "many", "part", "opening"]) (sc := defScope s_opening_of) (by decide +kernel)) (fun _ _ _ _ _ => pg_name (i := 3) sc_opening_of.nd rfl (.inl rfl)) (fun _ _ _ _ _ => pts_nil) (fun _ _ _ _ _ => (pe_ix (r := rIxT K) ix_tup (pv 3) pe_int (fun _ _ => rfl)))) pa_nil))) 
        (pss_cons (ps_for (passes_of rfl) rfl (pi_range2 rfl T.m_range (pa_cons pe_int (pa_cons (pe_op op_add (pe_callB call_len_seq (by rfl) T.m_len PySem.boot_len (pa_cons (pv 1) pa_nil)) pe_int) pa_nil))) (pg_name (i := 2) sc_opening_of.nd rfl (.inr rfl)) 
          (pss_cons (ps_if (pt_cmpR (op_inT (room65x hr)) (pe_slice sl_tupA (pv 1) po_none (po_some (pv 2))) (pe_glob (v := .ref tO) rfl T.c_OPENINGS rfl) (by rfl)) 
            (pss_one (ps_ret (pv 2))) pss_nil) 
          (pss_one (ps_if (pt_not (pt_val (pe_callB (cr_any rfl) (by rfl) T.m_any (by decide +kernel) (pa_cons (pe_lc (own := [("opening", 4)]) (g := gName 4) rfl sc_opening_of.nd (pi_tup (pe_glob (v := .ref tO) rfl T.c_OPENINGS rfl)) (blkOk_by (N := ["parts", "words", "many", "part", "opening"]) (sc := defScope s_opening_of) (by decide +kernel)) (fun _ _ _ _ _ => pg_name (i := 4) sc_opening_of.nd rfl (.inl rfl)) (fun _ _ _ _ _ => pts_nil) (fun _ _ _ _ _ => (pe_cmpR (r := rEqD K) (op_eqD hr.units) (pe_slice (r := rSlA K) sl_tupA (pv 1) po_none (po_some (pv 2))) (pe_slice (r := rSlA K) sl_tupA (pv 4) po_none (po_some (pv 2))) (nomark _)))) pa_nil)))) 
            (pss_one (ps_raise rfl (takes_of rfl rfl rfl rfl) (pmk_oex TS.o TS.i TS.t GS hr2 bS .nil pass0 rfl TS.g (pa_cons (pe_op op_sub (pv 2) pe_int) pa_nil)))) pss_nil)))) 
        (pss_one (ps_raise rfl (takes_of rfl rfl rfl rfl) (pmk_oex TS.o TS.i TS.t GS hr2 bS .nil pass0 rfl TS.g (pa_cons pe_non pa_nil)))))), ?_⟩
    refine ⟨_, rfl, slN1 hd fun z H1 s1 hz => ?_⟩
    obtain ⟨a, zs, rfl, hzs, hza⟩ : ∃ (a : Addr) (zs : List V), z = .ref a ∧ SqT K H1 a zs ∧ DpAll K H1 zs (ds.take 4) := by
      cases hz with
      | tup h1 h2 => exact ⟨_, _, rfl, h1, h2⟩
    have hzl := dpAll_len hza
    refine ⟨a, rfl, ⟨_, hzs⟩, fun D hD => ?_⟩
    refine lc_tup (xs := zs) (fun j H' => Same H1 H' ∧ H' D = some (.lst ((((ds.take 4).take j).map headW).map V.str))) ⟨same_upd hD, upd_same⟩ (fun j H' _ h => Same.seqT h.1 hzs) ?_ ?_
    · rintro j y H2 hy ⟨s2, hD2⟩
      have hj : j < (ds.take 4).length := by
        have := (List.getElem?_eq_some_iff.mp hy).1
        omega
      have hdj : (ds.take 4)[j]? = some (ds.take 4)[j] := List.getElem?_eq_getElem hj
      obtain ⟨hw, r5, hde, hhd⟩ := (hit _ (List.mem_of_mem_take (List.mem_of_getElem? hdj))).1.head
      have hdx := dp_same s2 _ _ (dpAll_at hza hy hdj)
      rw [hde] at hdx
      obtain ⟨xa, xv, rfl, hxs, hx0⟩ := dp_head hdx
      refine ⟨rfl, yes_then ⟨_, rfl, xa, xv, _, _, rfl, rfl, hxs, hx0, _, hD2, ?_, same_st s2 hD, ?_⟩⟩
      · rw [List.length_map, List.length_map, List.length_take, List.length_take]
        exact small1000 (by omega)
      · have e : ∀ (A : List PyData) (h : j < A.length), A.take (j + 1) = A.take j ++ [A[j]] := fun A h => by rw [List.take_add_one, List.getElem?_eq_getElem h]; rfl
        rw [upd_same, e _ hj, List.map_append, List.map_append, hde]
        rfl
    · rintro H2 ⟨s2, hD2⟩
      rw [List.take_of_length_le (by omega)] at hD2
      refine ⟨D, _, rfl, .inl ⟨.inl (.inl hD2), fun t ht => ?_⟩⟩
      have s3 : Same H2 (upd H2 t (.tup (((ds.take 4).map headW).map V.str))) := same_upd ht
      have hW : Dp K (upd H2 t (.tup (((ds.take 4).map headW).map V.str))) (.ref t) (strsD ((ds.take 4).map headW)) := .tup (.inl (.inl upd_same)) (dp_strs _)
      have hWs : SqT K (upd H2 t (.tup (((ds.take 4).map headW).map V.str))) t (((ds.take 4).map headW).map V.str) := .inl (.inl upd_same)
      have S3 := s1.trans (s2.trans s3)
      have hWall : ∀ w ∈ (ds.take 4).map headW, w ∈ wAll := fun w hw => by
        obtain ⟨d, hd2, rfl⟩ := List.mem_map.mp hw
        exact (hit d (List.mem_of_mem_take hd2)).2
      have hOF : openF (ds.map headW) = openG ((ds.take 4).map headW) ((ds.take 4).map headW).length 1 := by rw [openF_take, List.map_take]
      have hWl4 : ((ds.take 4).map headW).length ≤ 4 := by
        rw [List.length_map, List.length_take]
        omega
      rw [hOF] at q qe
      show tSeq _ _ _ _ (upd H2 t (.tup (((ds.take 4).map headW).map V.str)))
      generalize upd H2 t (.tup (((ds.take 4).map headW).map V.str)) = H3 at s3 S3 hW hWs ⊢
      generalize (ds.take 4).map headW = W at hW hWs hWl4 hWall q qe ⊢
      refine ⟨_, rfl, t, _, rfl, .inr hWs, _, _, rfl, rfl, 1, _, rfl, ⟨by omega, by omega, ?_, ?_⟩, ?_⟩
      · rw [List.length_map]
        omega
      · rw [List.length_map]
        omega
      · have en : (((W.map V.str).length : Int) + 1 - 1).toNat = W.length := by
          rw [List.length_map]
          omega
        refine for_it walk_range (fun i σ H' => Same H3 H' ∧ openG W W.length 1 = openG W (W.length - i) (1 + i) ∧ ∃ y2 y3 y4 : Option V, σ = [some x, some (.ref t), y2, y3, y4]) ⟨Same.refl H3, rfl, _, _, _, rfl⟩ (fun _ _ _ _ _ => trivial) ?_ ?_
        · rintro i y σ H4 _ hi0 ⟨s4, hik, y2, y3, y4, rfl⟩ ⟨rfl, rfl⟩
          have hi1 : i < W.length := by omega
          have ef : W.length - i = (W.length - (i + 1)) + 1 := by omega
          rw [ef] at hik
          have hik : openG W W.length 1 = (if inO W (1 + i) = true then .inl (1 + i) else if preO W (1 + i) = true then openG W (W.length - (i + 1)) (1 + i + 1) else .inr (some (1 + i - 1))) := hik
          have hsh : SeqAt.shaped (strsD (W.take (1 + i))) = true := strs_tup fun w hw => hWall w (List.mem_of_mem_take hw)
          have cut : ∀ (H' : Hp) (z : V), Dp K H' z (.tuple ((W.map PyData.str).take (1 + i))) → Dp K H' z (strsD (W.take (1 + i))) := fun H' z h => by
            rw [← List.map_take] at h
            exact h
          refine ⟨_, rfl, slN2 (dp_same s4 _ _ hW) fun z5 H5 s5 hz5 => ?_⟩
          refine ⟨strsD (W.take (1 + i)), opens.map strsD, cut _ _ hz5, hO H5, hsh, opens_sh2, ?_⟩
          have hin : ((opens.map strsD).any fun z => PyData.eqv z (strsD (W.take (1 + i)))) = inO W (1 + i) := by
            rw [List.any_map]
            unfold inO
            congr 1
            funext o
            show PyData.eqv (strsD o) (strsD (W.take (1 + i))) = _
            rw [eqv_strsT]
            exact decide_eq_decide.mpr ⟨fun h => h.symm, fun h => h.symm⟩
          rw [hin]
          refine ⟨_, rfl, ite2 (fun h => ?_) (fun h => ?_)⟩
          · rw [if_pos h] at hik
            have hq := q _ hik H5 (S3.trans (s4.trans s5))
            exact ⟨_, rfl, hq⟩
          · rw [if_neg h] at hik
            obtain ⟨os, hos, hoa⟩ : ∃ os : List V, SqT K H5 tO os ∧ DpAll K H5 os (opens.map strsD) := by
              have := hO H5
              cases this with
              | tup h1 h2 => exact ⟨_, h1, h2⟩
            have hol := dpAll_len hoa
            rw [List.length_map] at hol
            refine ⟨tO, rfl, ⟨_, hos⟩, fun D5 hD5 => ?_⟩
            refine lc_tup (xs := os) (fun j H' => Same H5 H' ∧ H' D5 = some (.lst (((opens.take j).map fun o => decide (W.take (1 + i) = o.take (1 + i))).map V.bl))) ⟨same_upd hD5, upd_same⟩ (fun j H' _ h => Same.seqT h.1 hos) ?_ ?_
            · rintro j y H6 hy ⟨s6, hD6⟩
              have hj : j < opens.length := by
                have := (List.getElem?_eq_some_iff.mp hy).1
                omega
              have hoj : opens[j]? = some opens[j] := List.getElem?_eq_getElem hj
              have hdy := dp_same s6 _ _ (dpAll_at hoa hy (d := strsD opens[j]) (by rw [List.getElem?_map, hoj]; rfl))
              have opw : (opens.all fun op => op.all fun w => wAll.contains w) = true := by decide +kernel
              have hsh2 : SeqAt.shaped (strsD (opens[j].take (1 + i))) = true := strs_tup fun w hw => by
                have h2 := List.all_eq_true.mp (List.all_eq_true.mp opw _ (List.mem_of_getElem? hoj)) w (List.mem_of_mem_take hw)
                exact List.contains_iff_mem.mp h2
              have cut2 : ∀ (H' : Hp) (z : V), Dp K H' z (.tuple ((opens[j].map PyData.str).take (1 + i))) → Dp K H' z (strsD (opens[j].take (1 + i))) := fun H' z h => by
                rw [← List.map_take] at h
                exact h
              refine ⟨rfl, yes_then ⟨_, rfl, slN2 (dp_same (s5.trans s6) _ _ (dp_same s4 _ _ hW)) fun z7 H7 s7 hz7 => ⟨_, rfl, slN2 (dp_same s7 _ _ hdy) fun z8 H8 s8 hz8 => ⟨_, _, dp_same s8 _ _ (cut _ _ hz7), cut2 _ _ hz8, hsh, hsh2, _, (s7.trans s8) _ _ hD6, ?_, same_st (s6.trans (s7.trans s8)) hD5, ?_⟩⟩⟩⟩
              · rw [List.length_map, List.length_map, List.length_take]
                have : opens.length = 6 := rfl
                exact small1000 (by omega)
              · rw [upd_same, take_snoc hj, List.map_append, List.map_append, eqv_strsT]
                rfl
            · rintro H6 ⟨s6, hD6⟩
              have e : opens.take os.length = opens := List.take_of_length_le (by omega)
              rw [e] at hD6
              have ep : ((opens.map fun o => decide (W.take (1 + i) = o.take (1 + i))).any id) = preO W (1 + i) := by
                rw [List.any_map]
                rfl
              refine ⟨D5, _, rfl, .inl (.inl hD6), _, rfl, ite2 (fun hp => ?_) (fun hp => ?_)⟩
              · have hp : (!((opens.map fun o => decide (W.take (1 + i) = o.take (1 + i))).any id)) = true := hp
                rw [ep, Bool.not_eq_true'] at hp
                rw [if_neg (by rw [hp]; decide)] at hik
                refine ⟨_, rfl, _, _, rfl, rfl, mko fun a H' g1 g2 g3 => qe _ hik a H' (((S3.trans (s4.trans (s5.trans s6)))).free g1) ((S3.trans (s4.trans (s5.trans s6))).trans g2) ?_⟩
                rw [g3]
                show some (HO.xd [("number", V.int (1 + (i : Int) - 1))]) = some (HO.xd [("number", iN (1 + i - 1))])
                rw [show (1 + (i : Int) - 1) = Int.ofNat (1 + i - 1) by rw [Int.ofNat_eq_natCast]; omega]
                rfl
              · have hp : ¬ (!((opens.map fun o => decide (W.take (1 + i) = o.take (1 + i))).any id)) = true := hp
                rw [ep] at hp
                have hp : preO W (1 + i) = true := by
                  cases hz : preO W (1 + i)
                  · exact absurd (by rw [hz]; rfl) hp
                  · rfl
                rw [if_pos hp] at hik
                exact ⟨s4.trans (s5.trans s6), by rw [show 1 + (i + 1) = 1 + i + 1 by omega]; exact hik, _, _, _, rfl⟩
        · rintro σ H4 ⟨s4, hik, y2, y3, y4, rfl⟩
          rw [en, Nat.sub_self] at hik
          exact mko fun a H' g1 g2 g3 => qe _ hik a H' ((S3.trans s4).free g1) ((S3.trans s4).trans g2) g3
end
end K05

/-! What stands at each place of a row, told item by item. No program's own. -/
namespace LY
open PySem PySem.Spec PyProof.Rows L2 TL GG
/-- items of a way out: what stands at each -/
def stI : St3 → List PyData → List St3
  | _, [] => []
  | s, d :: r => s :: stI (stB s (headW d)) r
def stO : St3 → List PyData → List St3
  | _, [] => []
  | s, d :: r => s :: (stI (stB s (headW d)) (way d) ++ stO (stB s (headW d)) r)
def GoodT : Nat → List (PyData × List Nat) → List St3 → List St3 → Prop
  | _, [], [], _ => True
  | i, (d, bs) :: r, t :: ts, S => S[i]? = some t ∧ (∀ b ∈ bs, i < b) ∧ GoodT (i + 1) r ts (setAll S bs (stB t (headW d)))
  | _, _, _, _ => False
theorem goodT_len : ∀ (L : List (PyData × List Nat)) (ts : List St3) (i : Nat) (S : List St3), GoodT i L ts S → L.length = ts.length
  | [], [], _, _, _ => rfl
  | [], _ :: _, _, _, h => h.elim
  | _ :: _, [], _, _, h => h.elim
  | (d, bs) :: r, t :: ts, i, S, h => by
    rw [List.length_cons, List.length_cons, goodT_len r ts (i + 1) _ h.2.2]
theorem runsT_keep : ∀ (L : List (PyData × List Nat)) (ts : List St3) (i : Nat) (S : List St3), GoodT i L ts S → ∀ j, j ≤ i → (runs S i L)[j]? = S[j]?
  | [], [], _, _, _, _, _ => rfl
  | [], _ :: _, _, _, h, _, _ => h.elim
  | _ :: _, [], _, _, h, _, _ => h.elim
  | (d, bs) :: r, t :: ts, i, S, h, j, hj => by
    obtain ⟨h1, h2, h3⟩ := h
    have e : S.getD i (false, false, false) = t := getD_of h1
    show (runs (setAll S bs (stB (S.getD i (false, false, false)) (headW d))) (i + 1) r)[j]? = _
    rw [e, runsT_keep r ts (i + 1) _ h3 j (by omega)]
    exact setAll_ne _ _ _ _ fun z => by have := h2 j z; omega
theorem goodT_at : ∀ (L : List (PyData × List Nat)) (ts : List St3) (i : Nat) (S : List St3), GoodT i L ts S → ∀ k t, ts[k]? = some t → (runs S i L)[i + k]? = some t
  | [], [], _, _, _, _, _, h => nomatch h
  | [], _ :: _, _, _, h, _, _, _ => h.elim
  | _ :: _, [], _, _, h, _, _, _ => h.elim
  | (d, bs) :: r, t0 :: ts, i, S, h, 0, t, hk => by
    obtain rfl := Option.some.inj hk
    have := runsT_keep ((d, bs) :: r) (t0 :: ts) i S h i (Nat.le_refl _)
    rw [Nat.add_zero, this]
    exact h.1
  | (d, bs) :: r, t0 :: ts, i, S, h, k + 1, t, hk => by
    have e : S.getD i (false, false, false) = t0 := getD_of h.1
    have := goodT_at r ts (i + 1) _ h.2.2 k t hk
    rw [show i + (k + 1) = i + 1 + k by omega]
    show (runs (setAll S bs (stB (S.getD i (false, false, false)) (headW d))) (i + 1) r)[i + 1 + k]? = _
    rw [e]
    exact this
theorem goodT_app : ∀ (A B : List (PyData × List Nat)) (ts us : List St3) (i : Nat) (S : List St3), GoodT i A ts S → GoodT (i + A.length) B us (runs S i A) → GoodT i (A ++ B) (ts ++ us) S
  | [], B, [], us, _, _, _, h => h
  | [], _, _ :: _, _, _, _, h, _ => h.elim
  | _ :: _, _, [], _, _, _, h, _ => h.elim
  | (d, bs) :: r, B, t :: ts, us, i, S, h, k => by
    refine ⟨h.1, h.2.1, goodT_app r B ts us (i + 1) _ h.2.2 ?_⟩
    have e : S.getD i (false, false, false) = t := getD_of h.1
    have h1 : i + ((d, bs) :: r).length = i + 1 + r.length := by rw [List.length_cons]; omega
    rw [h1] at k
    have k : GoodT (i + 1 + r.length) B us (runs (setAll S bs (stB (S.getD i (false, false, false)) (headW d))) (i + 1) r) := k
    rw [e] at k
    exact k
theorem stI_len : ∀ (r : List PyData) (s : St3), (stI s r).length = r.length
  | [], _ => rfl
  | d :: r, s => by
    show (stI _ r).length + 1 = _
    rw [stI_len r]
    rfl
theorem innerT (e : Nat) : ∀ (w : List PyData) (s : St3) (o : Nat) (S : List St3), o + w.length ≤ e → S.length = e + 1 → (w ≠ [] → S[o]? = some s) → GoodT o (w.zip (chain e o w.length)) (stI s w) S
  | [], _, _, _, _, _, _ => trivial
  | [d], s, o, S, he, hS, h0 => by
    have he : o + 1 ≤ e := he
    refine ⟨h0 (by simp), fun b hb => ?_, trivial⟩
    have : b = e := List.mem_singleton.mp hb
    omega
  | d :: d2 :: r, s, o, S, he, hS, h0 => by
    have he : o + (r.length + 2) ≤ e := he
    refine ⟨h0 (by simp), fun b hb => ?_, ?_⟩
    · have : b = o + 1 := List.mem_singleton.mp hb
      omega
    · refine innerT e (d2 :: r) _ (o + 1) _ (by show o + 1 + (r.length + 1) ≤ e; omega) (by rw [setAll_len]; exact hS) fun _ => ?_
      exact setAll_in _ (o + 1) [o + 1] S (List.mem_singleton.mpr rfl) (by omega)
/-- an item of a row by its form -/
def ItF (d : PyData) : Prop := wayOf d = none ∨ ((wayOf d).isSome = true ∧ headW d = "ask")
theorem outerT (e : Nat) : ∀ (r : List PyData) (s : St3) (o : Nat) (S : List St3), (∀ d ∈ r, ItF d) → o + (spread r).length = e → S.length = e + 1 → (r ≠ [] → S[o]? = some s) → GoodT o ((spread r).zip (leads e o r)) (stO s r) S
  | [], _, _, _, _, _, _, _ => trivial
  | d :: r, s, o, S, hF, he, hS, h0 => by
    have g0 := h0 (by simp)
    have hr : ∀ d ∈ r, ItF d := fun d hd => hF d (List.mem_cons_of_mem _ hd)
    rw [spread_cons] at he ⊢
    rw [List.length_cons, List.length_append] at he
    rcases hF d List.mem_cons_self with h1 | ⟨h1, h2⟩
    · have hw : way d = [] := by unfold way; rw [h1]; rfl
      have hL := leads_none (e := e) (o := o) (r := r) h1
      have hs : stO s (d :: r) = s :: stO (stB s (headW d)) r := by
        show s :: (stI (stB s (headW d)) (way d) ++ stO (stB s (headW d)) r) = _
        rw [hw]
        rfl
      rw [hw] at he ⊢
      rw [hL, hs]
      have he : o + 1 + (spread r).length = e := by simp at he; omega
      refine ⟨g0, fun b hb => ?_, ?_⟩
      · have : b = o + 1 := List.mem_singleton.mp hb
        omega
      · refine outerT e r _ (o + 1) _ hr he (by rw [setAll_len]; exact hS) fun _ => ?_
        exact setAll_in _ (o + 1) [o + 1] S (List.mem_singleton.mpr rfl) (by omega)
    · obtain ⟨w, h1⟩ := Option.isSome_iff_exists.mp h1
      have hw : way d = w := by unfold way; rw [h1]; rfl
      have hL := leads_some (e := e) (o := o) (r := r) h1
      have same : stB s (headW d) = s := by rw [h2]; rfl
      have hs : stO s (d :: r) = s :: (stI s w ++ stO s r) := by
        show s :: (stI (stB s (headW d)) (way d) ++ stO (stB s (headW d)) r) = _
        rw [hw, same]
      rw [hw] at he ⊢
      rw [hL, hs]
      have hx : (if w.length = 0 then e else o + 1) = e ∧ w = [] ∨ (if w.length = 0 then e else o + 1) = o + 1 ∧ w ≠ [] := by
        cases w with
        | nil => exact .inl ⟨rfl, rfl⟩
        | cons a b => exact .inr ⟨if_neg (by simp), by simp⟩
      generalize (if w.length = 0 then e else o + 1) = x at hx ⊢
      refine ⟨g0, fun b hb => ?_, ?_⟩
      · rcases List.mem_cons.mp hb with rfl | hb
        · omega
        · have := List.mem_singleton.mp hb
          rcases hx with ⟨rfl, _⟩ | ⟨rfl, _⟩ <;> omega
      · rw [same]
        have hT : (setAll S [o + 1 + w.length, x] s).length = e + 1 := by rw [setAll_len]; exact hS
        have z1 : w ≠ [] → (setAll S [o + 1 + w.length, x] s)[o + 1]? = some s := fun k => by
          rcases hx with ⟨_, q⟩ | ⟨rfl, _⟩
          · exact absurd q k
          · exact setAll_in _ _ _ S (List.mem_cons_of_mem _ (List.mem_singleton.mpr rfl)) (by omega)
        have z2 : (setAll S [o + 1 + w.length, x] s)[o + 1 + w.length]? = some s := setAll_in _ _ _ S List.mem_cons_self (by omega)
        generalize setAll S [o + 1 + w.length, x] s = T at hT z1 z2 ⊢
        have hz : (w ++ spread r).zip (chain e (o + 1) w.length ++ leads e (o + 1 + w.length) r) = w.zip (chain e (o + 1) w.length) ++ (spread r).zip (leads e (o + 1 + w.length) r) := List.zip_append (by rw [chain_len])
        show GoodT (o + 1) ((w ++ spread r).zip (chain e (o + 1) w.length ++ leads e (o + 1 + w.length) r)) (stI s w ++ stO s r) T
        rw [hz]
        refine goodT_app _ _ _ _ (o + 1) T (innerT e w s (o + 1) T (by omega) hT z1) ?_
        have hl : (w.zip (chain e (o + 1) w.length)).length = w.length := by rw [List.length_zip, chain_len, Nat.min_self]
        rw [hl]
        refine outerT e r s (o + 1 + w.length) _ hr (by omega) (by rw [runs_len]; exact hT) fun k => ?_
        rw [runs_ne (o + 1 + w.length) _ _ _ fun p hp hb => ?_]
        · exact z2
        · obtain ⟨p1, p2⟩ := p
          have hp2 := (List.of_mem_zip hp).2
          rcases chain_mem e w.length (o + 1) p2 hp2 _ hb with q | ⟨q1, q2⟩
          · cases r with
            | nil => exact k rfl
            | cons a b => rw [spread_cons] at he; simp at he; omega
          · omega
/-! ### a row laid, entry by entry -/
/-- an entry: the item, its first and second next places, what stands there -/
abbrev Ent := PyData × Nat × Nat × St3
def entI (e : Nat) : Nat → St3 → List PyData → List Ent
  | _, _, [] => []
  | _, s, [d] => [(d, e, e, s)]
  | o, s, d :: d2 :: r => (d, o + 1, o + 1, s) :: entI e (o + 1) (stB s (headW d)) (d2 :: r)
def entO (e : Nat) : Nat → St3 → List PyData → List Ent
  | _, _, [] => []
  | o, s, d :: r => (d, o + 1 + (way d).length, (if (way d).length = 0 then e else o + 1), s) :: (entI e (o + 1) (stB s (headW d)) (way d) ++ entO e (o + 1 + (way d).length) (stB s (headW d)) r)
/-- what a place is told by an entry: an ask has two next places -/
def EntR (x : Ent) (d : PyData) (bs : List Nat) (t : St3) : Prop := x.1 = d ∧ x.2.2.2 = t ∧ bs = (if headW d = "ask" then [x.2.1, x.2.2.1] else [x.2.1])
theorem entI_len (e : Nat) : ∀ (r : List PyData) (o : Nat) (s : St3), (entI e o s r).length = r.length
  | [], _, _ => rfl
  | [d], _, _ => rfl
  | d :: d2 :: r, o, s => by
    show (entI e (o + 1) _ (d2 :: r)).length + 1 = _
    rw [entI_len e (d2 :: r)]
    rfl
theorem entO_len (e : Nat) : ∀ (r : List PyData) (o : Nat) (s : St3), (entO e o s r).length = (spread r).length
  | [], _, _ => rfl
  | d :: r, o, s => by
    show (entI e (o + 1) (stB s (headW d)) (way d) ++ entO e (o + 1 + (way d).length) (stB s (headW d)) r).length + 1 = _
    rw [List.length_append, entI_len, entO_len e r, spread_cons, List.length_cons, List.length_append]
theorem entI_at (e : Nat) : ∀ (r : List PyData) (o : Nat) (s : St3), (∀ d ∈ r, headW d ≠ "ask") → ∀ (i : Nat) (x : Ent), (entI e o s r)[i]? = some x → ∃ d bs t, r[i]? = some d ∧ (chain e o r.length)[i]? = some bs ∧ (stI s r)[i]? = some t ∧ EntR x d bs t
  | [], _, _, _, _, _, h => nomatch h
  | [d], o, s, hn, i, x, h => by
    cases i with
    | zero =>
      obtain rfl := Option.some.inj h
      exact ⟨d, [e], s, rfl, rfl, rfl, rfl, rfl, by rw [if_neg (hn d List.mem_cons_self)]⟩
    | succ i => cases h
  | d :: d2 :: r, o, s, hn, i, x, h => by
    cases i with
    | zero =>
      obtain rfl := Option.some.inj h
      exact ⟨d, [o + 1], s, rfl, rfl, rfl, rfl, rfl, by rw [if_neg (hn d List.mem_cons_self)]⟩
    | succ i =>
      obtain ⟨d', bs, t, h1, h2, h3, h4⟩ := entI_at e (d2 :: r) (o + 1) (stB s (headW d)) (fun d hd => hn d (List.mem_cons_of_mem _ hd)) i x h
      exact ⟨d', bs, t, h1, h2, h3, h4⟩
theorem entO_at (e : Nat) : ∀ (r : List PyData) (o : Nat) (s : St3), (∀ d ∈ r, ItF d ∧ (wayOf d = none → headW d ≠ "ask") ∧ ∀ z ∈ way d, headW z ≠ "ask") → ∀ (i : Nat) (x : Ent), (entO e o s r)[i]? = some x → ∃ d bs t, (spread r)[i]? = some d ∧ (leads e o r)[i]? = some bs ∧ (stO s r)[i]? = some t ∧ EntR x d bs t
  | [], _, _, _, _, _, h => nomatch h
  | d :: r, o, s, hF, i, x, h => by
    obtain ⟨hf, hn, hz⟩ := hF d List.mem_cons_self
    rw [spread_cons]
    have hLe : leads e o (d :: r) = (if headW d = "ask" then [o + 1 + (way d).length, if (way d).length = 0 then e else o + 1] else [o + 1 + (way d).length]) :: (chain e (o + 1) (way d).length ++ leads e (o + 1 + (way d).length) r) := by
      rcases hf with h1 | ⟨h1, h2⟩
      · have hw : way d = [] := by unfold way; rw [h1]; rfl
        rw [leads_none h1, hw, if_neg (hn h1)]
        rfl
      · obtain ⟨w, h1⟩ := Option.isSome_iff_exists.mp h1
        have hw : way d = w := by unfold way; rw [h1]; rfl
        rw [leads_some h1, hw, if_pos h2]
    rw [hLe]
    cases i with
    | zero =>
      obtain rfl := Option.some.inj h
      exact ⟨d, _, s, rfl, rfl, rfl, rfl, rfl, rfl⟩
    | succ i =>
      have h : (entI e (o + 1) (stB s (headW d)) (way d) ++ entO e (o + 1 + (way d).length) (stB s (headW d)) r)[i]? = some x := h
      show ∃ d' bs t, (way d ++ spread r)[i]? = some d' ∧ (chain e (o + 1) (way d).length ++ leads e (o + 1 + (way d).length) r)[i]? = some bs ∧ (stI (stB s (headW d)) (way d) ++ stO (stB s (headW d)) r)[i]? = some t ∧ EntR x d' bs t
      by_cases hi : i < (way d).length
      · rw [List.getElem?_append_left (by rw [entI_len]; exact hi)] at h
        obtain ⟨d', bs, t, h1, h2, h3, h4⟩ := entI_at e (way d) (o + 1) _ hz i x h
        exact ⟨d', bs, t, by rw [List.getElem?_append_left hi]; exact h1, by rw [List.getElem?_append_left (by rw [chain_len]; exact hi)]; exact h2, by rw [List.getElem?_append_left (by rw [stI_len]; exact hi)]; exact h3, h4⟩
      · have hi : (way d).length ≤ i := by omega
        rw [List.getElem?_append_right (by rw [entI_len]; exact hi), entI_len] at h
        obtain ⟨d', bs, t, h1, h2, h3, h4⟩ := entO_at e r (o + 1 + (way d).length) _ (fun d hd => hF d (List.mem_cons_of_mem _ hd)) (i - (way d).length) x h
        exact ⟨d', bs, t, by rw [List.getElem?_append_right hi]; exact h1, by rw [List.getElem?_append_right (by rw [chain_len]; exact hi), chain_len]; exact h2, by rw [List.getElem?_append_right (by rw [stI_len]; exact hi), stI_len]; exact h3, h4⟩
end LY

namespace K05
open PySem PySem.Spec PyProof.Rows StX L2 TL GG OO LY
theorem stds_at {ds : List PyData} (hF : ∀ d ∈ ds, ItF d) {i : Nat} {t : St3} (h : (stO ff3 ds)[i]? = some t) : (stds ds)[i]? = some t := by
  have g := outerT (spread ds).length ds ff3 0 (List.replicate ((spread ds).length + 1) ff3) hF (by omega) (by rw [List.length_replicate]) fun _ => by rw [List.getElem?_replicate_of_lt (by omega)]
  have k := goodT_at _ _ 0 _ g i t h
  have hl := goodT_len _ _ _ _ g
  have hi := (List.getElem?_eq_some_iff.mp h).1
  rw [← hl, List.length_zip, leads_len, Nat.min_self] at hi
  unfold stds
  rw [List.getElem?_take_of_lt hi]
  rw [Nat.zero_add] at k
  exact k
theorem way_item {z : PyData} (h : isWayItemP z = true) : ∃ w r, z = .tuple (.str w :: r) ∧ w ∈ (["let", "enter", "leave", "touch", "use", "lock", "unlock", "start"] : List Str) ∧ wayOf z = none := by
  unfold isWayItemP at h
  rw [Bool.or_eq_true] at h
  rcases h with h | h
  · match z, h with
    | .tuple [x], h =>
      obtain ⟨w, rfl⟩ := word_str (ws := wBare) h
      refine ⟨w, [], rfl, ?_, rfl⟩
      obtain ⟨v, hv, e⟩ := List.any_eq_true.mp (show wBare.any (· == w) = true from h)
      rw [← beq_iff_eq.mp e]
      simp only [List.mem_cons, List.not_mem_nil, or_false] at hv ⊢
      rcases hv with rfl | rfl | rfl | rfl | rfl | rfl | rfl <;> simp
  · match z, h with
    | .tuple [x, e], h =>
      have h : (isWordP wNamed x && isNameP e) = true := h
      rw [Bool.and_eq_true] at h
      obtain ⟨w, rfl⟩ := word_str h.1
      refine ⟨w, [e], rfl, ?_, rfl⟩
      obtain ⟨v, hv, e⟩ := List.any_eq_true.mp (show wNamed.any (· == w) = true from h.1)
      rw [← beq_iff_eq.mp e]
      rw [List.mem_singleton.mp hv]
      simp
theorem open_item {z : PyData} (h : isBareP wOpen z = true) : ∃ w, z = .tuple [.str w] ∧ w ∈ wOpen := by
  match z, h with
  | .tuple [x], h =>
    obtain ⟨w, rfl⟩ := word_str (ws := wOpen) h
    obtain ⟨v, hv, e⟩ := List.any_eq_true.mp (show wOpen.any (· == w) = true from h)
    exact ⟨w, rfl, by rw [← beq_iff_eq.mp e]; exact hv⟩
theorem ask_form {d : PyData} (h : isHeadP d = true) : ∃ m os, d = .tuple [.str "ask", m, .tuple os] ∧ os.length ≤ 4 := by
  match d, h with
  | .tuple [w, m, o], h =>
    have h1 : (isWordP wAsk w && (isNameP m && wayLen o)) = true := h
    rw [Bool.and_eq_true, Bool.and_eq_true] at h1
    obtain ⟨h1, h2, h3⟩ := h1
    obtain ⟨w, rfl⟩ := word_str h1
    cases o with
    | tuple os =>
      obtain ⟨v, hv, e⟩ := List.any_eq_true.mp (show wAsk.any (· == w) = true from h1)
      rw [← beq_iff_eq.mp e, List.mem_singleton.mp hv]
      exact ⟨m, os, rfl, of_decide_eq_true h3⟩
    | _ => cases h3
/-- what an item is by its form -/
def ItG (d : PyData) : Prop := ItemD d ∧ headW d ∈ wAll ∧ ItF d ∧ (wayOf d = none → headW d ≠ "ask")
theorem way_form {z : PyData} (h : isWayItemP z = true) : ItG z ∧ wayOf z = none := by
  obtain ⟨w, r, rfl, hw, hn⟩ := way_item h
  have ha : w ≠ "ask" := by
    rintro rfl
    exact absurd hw (by decide +kernel)
  refine ⟨⟨.inl ⟨w, r, rfl, ha, hn⟩, ?_, .inl hn, fun _ => ha⟩, hn⟩
  show w ∈ wAll
  simp only [List.mem_cons, List.not_mem_nil, or_false] at hw ⊢
  rcases hw with rfl | rfl | rfl | rfl | rfl | rfl | rfl | rfl <;> simp
theorem itOk_form {d : PyData} (h : itOk d) : ItG d ∧ ∀ z ∈ way d, ItG z ∧ wayOf z = none := by
  rcases h with ⟨h, hw⟩ | ⟨h, hi, hw⟩
  · obtain ⟨m, os, rfl, _⟩ := ask_form h
    exact ⟨⟨.inr ⟨m, os, rfl⟩, by show ("ask" : Str) ∈ wAll; simp, .inr ⟨rfl, rfl⟩, fun e => nomatch e⟩, fun z hz => way_form (hw z hz)⟩
  · refine ⟨?_, fun z hz => by rw [hw] at hz; cases hz⟩
    unfold isItemP at hi
    rw [ask_head_of h, Bool.or_false, Bool.or_eq_true] at hi
    rcases hi with hi | hi
    · obtain ⟨w, rfl, hv⟩ := open_item hi
      have ha : w ≠ "ask" := by
        rintro rfl
        exact absurd hv (by decide +kernel)
      refine ⟨.inl ⟨w, [], rfl, ha, rfl⟩, ?_, .inl rfl, fun _ => ha⟩
      show w ∈ wAll
      simp only [List.mem_cons, List.not_mem_nil, or_false] at hv ⊢
      rcases hv with rfl | rfl | rfl <;> simp
    · exact (way_form hi).1
theorem spread_form {ds : List PyData} (h : ∀ d ∈ ds, itOk d) : ∀ d ∈ spread ds, ItG d := fun d hd => by
  obtain ⟨a, ha, hd⟩ := List.mem_flatMap.mp hd
  rcases List.mem_cons.mp hd with rfl | hd
  · exact (itOk_form (h _ ha)).1
  · exact ((itOk_form (h a ha)).2 d hd).1
/-- the first item of a way out that is none -/
def wayNo : List PyData → Option Nat
  | [] => none
  | d :: r => if isWayItemP d = true then (wayNo r).map (· + 1) else some 0
/-- the first number that is no item, the first item numbered m -/
def formB : Nat → List PyData → Option Nat
  | _, [] => none
  | m, d :: r => if isHeadP d = true then (match wayNo (way d) with | some j => some (m + 1 + j) | none => formB (m + 1 + (way d).length) r) else if isItemP d = true then formB (m + 1) r else some m
theorem wayNo_none : ∀ {os : List PyData}, (∀ z ∈ os, isWayItemP z = true) → wayNo os = none
  | [], _ => rfl
  | d :: r, h => by
    show (if isWayItemP d = true then (wayNo r).map (· + 1) else some 0) = none
    rw [if_pos (h d List.mem_cons_self), wayNo_none fun z hz => h z (List.mem_cons_of_mem _ hz)]
    rfl
theorem wayNo_at : ∀ {os : List PyData} {j : Nat} {z : PyData}, os[j]? = some z → isWayItemP z = false → (∀ k z, k < j → os[k]? = some z → isWayItemP z = true) → wayNo os = some j
  | [], _, _, h, _, _ => nomatch h
  | d :: r, 0, z, h, hz, _ => by
    obtain rfl := Option.some.inj h
    show (if isWayItemP d = true then _ else some 0) = _
    rw [if_neg (by rw [hz]; decide)]
  | d :: r, j + 1, z, h, hz, hk => by
    show (if isWayItemP d = true then (wayNo r).map (· + 1) else some 0) = _
    rw [if_pos (hk 0 d (by omega) rfl), wayNo_at (os := r) (j := j) h hz fun k z h1 h2 => hk (k + 1) z (by omega) h2]
    rfl
theorem formB_skip {d : PyData} {r : List PyData} {m : Nat} (h : itOk d) : formB m (d :: r) = formB (m + 1 + (way d).length) r := by
  rcases h with ⟨h, hw⟩ | ⟨h, hi, hw⟩
  · show (if isHeadP d = true then _ else _) = _
    rw [if_pos h, wayNo_none hw]
  · show (if isHeadP d = true then _ else if isItemP d = true then formB (m + 1) r else some m) = _
    rw [if_neg (by rw [h]; decide), if_pos hi, hw]
    rfl
theorem formB_none : ∀ {ds : List PyData} (m : Nat), (∀ d ∈ ds, itOk d) → formB m ds = none
  | [], _, _ => rfl
  | d :: r, m, h => by
    rw [formB_skip (h d List.mem_cons_self)]
    exact formB_none _ fun e he => h e (List.mem_cons_of_mem _ he)
theorem formB_at : ∀ {ds : List PyData} (m i : Nat) {d : PyData} {n : Nat}, ds[i]? = some d → (∀ j d, j < i → ds[j]? = some d → itOk d) → formB (m + (spread (ds.take i)).length) [d] = some n → formB m ds = some n
  | [], _, _, _, _, h, _, _ => nomatch h
  | a :: r, m, 0, d, n, h, _, hn => by
    obtain rfl := Option.some.inj h
    have hn : (if isHeadP a = true then (match wayNo (way a) with | some j => some (m + 0 + 1 + j) | none => none) else if isItemP a = true then none else some (m + 0)) = some n := hn
    show (if isHeadP a = true then (match wayNo (way a) with | some j => some (m + 1 + j) | none => formB (m + 1 + (way a).length) r) else if isItemP a = true then formB (m + 1) r else some m) = some n
    split at hn
    · rename_i h1
      rw [if_pos h1]
      split at hn
      · rename_i j h2
        first
          | exact hn
          | (rw [h2]; exact hn)
      · cases hn
    · rename_i h1
      rw [if_neg h1]
      split at hn
      · cases hn
      · rename_i h2
        rw [if_neg h2]
        exact hn
  | a :: r, m, i + 1, d, n, h, hk, hn => by
    rw [formB_skip (hk 0 a (by omega) rfl)]
    refine formB_at (m + 1 + (way a).length) i (ds := r) h (fun j d h1 h2 => hk (j + 1) d (by omega) h2) ?_
    have e : (spread ((a :: r).take (i + 1))).length = 1 + (way a).length + (spread (r.take i)).length := by
      rw [List.take_succ_cons, spread_cons, List.length_cons, List.length_append]
      omega
    rw [e] at hn
    rw [← hn]
    congr 1
    omega
theorem formB_head {ds : List PyData} {i j : Nat} {d z : PyData} (h : ds[i]? = some d) (hk : ∀ j d, j < i → ds[j]? = some d → itOk d) (hh : isHeadP d = true) (hj : (way d)[j]? = some z) (hz : isWayItemP z = false) (hl : ∀ k z, k < j → (way d)[k]? = some z → isWayItemP z = true) : formB 0 ds = some ((spread (ds.take i)).length + 1 + j) := by
  refine formB_at 0 i h hk ?_
  show (if isHeadP d = true then (match wayNo (way d) with | some j => some (0 + (spread (ds.take i)).length + 1 + j) | none => none) else _) = _
  rw [if_pos hh, wayNo_at hj hz hl, Nat.zero_add]
theorem formB_item {ds : List PyData} {i : Nat} {d : PyData} (h : ds[i]? = some d) (hk : ∀ j d, j < i → ds[j]? = some d → itOk d) (hh : isHeadP d = false) (hi : isItemP d = false) : formB 0 ds = some (spread (ds.take i)).length := by
  refine formB_at 0 i h hk ?_
  show (if isHeadP d = true then _ else if isItemP d = true then none else some (0 + (spread (ds.take i)).length)) = _
  rw [if_neg (by rw [hh]; decide), if_neg (by rw [hi]; decide), Nat.zero_add]
/-- by the forms of the items and how many they are -/
def formF (ds : List PyData) : Option (Option Nat) := match formB 0 ds with
  | some n => some (some n)
  | none => if 1 ≤ (spread ds).length ∧ (spread ds).length ≤ 14 then none else some none
/-- the places of a row -/
def ents (ds : List PyData) : List Ent := entO (spread ds).length 0 ff3 ds
def bsE (x : Ent) : List Nat := if headW x.1 = "ask" then [x.2.1, x.2.2.1] else [x.2.1]
def gAt (ds : List PyData) (i : Nat) : Option (PyData × List Nat × St3) := (ents ds)[i]?.map fun x => (x.1, bsE x, x.2.2.2)
theorem gAt_at {ds : List PyData} (hok : ∀ d ∈ ds, itOk d) {i : Nat} {d : PyData} {bs : List Nat} {t : St3} (h : gAt ds i = some (d, bs, t)) : (spread ds)[i]? = some d ∧ (leads (spread ds).length 0 ds)[i]? = some bs ∧ (stds ds)[i]? = some t ∧ (headW d = "let" → ∃ x, bs = [x]) := by
  obtain ⟨x, hx, e⟩ := Option.map_eq_some_iff.mp h
  obtain ⟨d', bs', t', h1, h2, h3, h4, h5, h6⟩ := entO_at (spread ds).length ds 0 ff3 (fun d hd => ⟨(itOk_form (hok d hd)).1.2.2.1, (itOk_form (hok d hd)).1.2.2.2, fun z hz => ((itOk_form (hok d hd)).2 z hz).1.2.2.2 ((itOk_form (hok d hd)).2 z hz).2⟩) i x hx
  cases e
  have hb : bsE x = bs' := by
    rw [h6, ← h4]
    rfl
  rw [hb, h4, h5]
  refine ⟨h1, h2, stds_at (fun d hd => (itOk_form (hok d hd)).1.2.2.1) h3, fun hl => ⟨x.2.1, ?_⟩⟩
  rw [h6, if_neg (by rw [hl]; decide +kernel)]
theorem gAt_len (ds : List PyData) (i : Nat) : (gAt ds i).isSome = true ↔ i < (spread ds).length := by
  unfold gAt
  rw [Option.isSome_map]
  have e : (ents ds).length = (spread ds).length := entO_len _ ds 0 ff3
  rw [← e]
  exact Option.isSome_iff_exists.trans ⟨fun ⟨x, hx⟩ => (List.getElem?_eq_some_iff.mp hx).1, fun h => ⟨_, List.getElem?_eq_getElem h⟩⟩
def badI (o : Nat) (ws : List Str) (ds : List PyData) (i : Nat) : Bool := match gAt ds i with
  | some (d, bs, t) => badP o ws (spread ds).length i d bs t
  | none => false
/-- the first place that is not let by -/
def badF (o : Nat) (ws : List Str) (ds : List PyData) : Option Nat := (List.range (spread ds).length).find? (badI o ws ds)
theorem badF_none {o : Nat} {ws : List Str} {ds : List PyData} (h : badF o ws ds = none) {i : Nat} {d : PyData} {bs : List Nat} {t : St3} (hg : gAt ds i = some (d, bs, t)) : badP o ws (spread ds).length i d bs t = false := by
  have hi := (gAt_len ds i).mp (by rw [hg]; rfl)
  have := List.find?_eq_none.mp h i (List.mem_range.mpr hi)
  unfold badI at this
  rw [hg] at this
  exact bf this
theorem badF_at {o : Nat} {ws : List Str} {ds : List PyData} {i : Nat} {d : PyData} {bs : List Nat} {t : St3} (hg : gAt ds i = some (d, bs, t)) (hb : badP o ws (spread ds).length i d bs t = true) (hf : ∀ j d bs t, j < i → gAt ds j = some (d, bs, t) → badP o ws (spread ds).length j d bs t = false) : badF o ws ds = some i := by
  have hi := (gAt_len ds i).mp (by rw [hg]; rfl)
  refine List.find?_range_eq_some.mpr ⟨?_, List.mem_range.mpr hi, fun j hj => ?_⟩
  · unfold badI
    rw [hg]
    exact hb
  · unfold badI
    cases hgj : gAt ds j with
    | none => rfl
    | some p =>
      obtain ⟨d', bs', t'⟩ := p
      show (!badP o ws (spread ds).length j d' bs' t') = true
      rw [hf j d' bs' t' hj hgj]
      rfl
/-- which number a row is refused with, if any -/
def progF (hand : Bool) (ds : List PyData) : Option (Option Nat) := match formF ds with
  | some r => some r
  | none => if hand = true then (match openF (ds.map headW) with | .inr r => some r | .inl o => (badF o wNotB ds).map some) else (badF 0 wNotW ds).map some
end K05

namespace K05
open PySem PySem.Spec PyProof.Rows StX L2 TL GG OO LY
abbrev sHR_init : Stmt := inClass s_HandRow 0
abbrev sWR_init : Stmt := inClass s_WorkRow 0
abbrev sHR_of : Stmt := inClass s_HandRow 1
abbrev sWR_of : Stmt := inClass s_WorkRow 1
theorem keep_same {x : Addr} {H H' : Hp} (k : Keep x H H') {H0 : Hp} (s : Same H0 H) (n : H0 x = none) : Same H0 H' := fun b o e => k b (ne_of_none e n) o (s b o e)
def rowOf : PyData → Option (List PyData)
  | .tuple ds => some ds
  | .list ds => some ds
  | _ => none
section
variable {K : PySem.W.Frag}
theorem any_tl {K : PySem.W.Frag} (d : PyData) : PySem.W.kitAny K (.type (tyName d)) [.type "tuple", .type "list"] = some (rowOf d).isSome := by
  have f : ∀ {a b : String} {r : Bool}, kitB a b = some r → PySem.W.kitOne K (.type a) (.type b) = some r := fun h => kit_ty h
  cases d
  · exact kitAny_cons (b := false) (f (a := "NoneType") (b := "tuple") (by decide +kernel)) (fun _ => kitAny_cons (b := false) (f (a := "NoneType") (b := "list") (by decide +kernel)) (fun _ => rfl) (fun z => nomatch z)) (fun z => nomatch z)
  · exact kitAny_cons (b := false) (f (a := "bool") (b := "tuple") (by decide +kernel)) (fun _ => kitAny_cons (b := false) (f (a := "bool") (b := "list") (by decide +kernel)) (fun _ => rfl) (fun z => nomatch z)) (fun z => nomatch z)
  · exact kitAny_cons (b := false) (f (a := "int") (b := "tuple") (by decide +kernel)) (fun _ => kitAny_cons (b := false) (f (a := "int") (b := "list") (by decide +kernel)) (fun _ => rfl) (fun z => nomatch z)) (fun z => nomatch z)
  · exact kitAny_cons (b := false) (f (a := "str") (b := "tuple") (by decide +kernel)) (fun _ => kitAny_cons (b := false) (f (a := "str") (b := "list") (by decide +kernel)) (fun _ => rfl) (fun z => nomatch z)) (fun z => nomatch z)
  · exact kitAny_cons (b := false) (f (a := "list") (b := "tuple") (by decide +kernel)) (fun _ => kitAny_cons (b := true) (f (a := "list") (b := "list") (by decide +kernel)) (fun z => nomatch z) (fun _ => rfl)) (fun z => nomatch z)
  · exact kitAny_cons (b := true) (f (a := "tuple") (b := "tuple") (by decide +kernel)) (fun z => nomatch z) (fun _ => rfl)
  · exact kitAny_cons (b := false) (f (a := "dict") (b := "tuple") (by decide +kernel)) (fun _ => kitAny_cons (b := false) (f (a := "dict") (b := "list") (by decide +kernel)) (fun _ => rfl) (fun z => nomatch z)) (fun z => nomatch z)
/-- the items of a tuple or list -/
theorem val_items {H : Hp} {x : V} {d : PyData} {ds : List PyData} (h : Val K H x d) (e : rowOf d = some ds) : ∃ (a : Addr) (xs : List V), x = .ref a ∧ (SqT K H a xs ∨ SqL K H a xs) ∧ DpAll K H xs ds ∧ Good 60 (.tuple ds) := by
  rcases h with ⟨h, g⟩ | ⟨rfl, _⟩
  · cases h with
    | lst hs ha =>
      cases e
      exact ⟨_, _, rfl, .inr hs, ha, g⟩
    | tup hs ha =>
      cases e
      exact ⟨_, _, rfl, .inl hs, ha, g⟩
    | _ => cases e
  · cases e
end
/-- what is stored in a row: its opening, if it has one, its layout, its tuple -/
def opF : Option Nat → List (Str × V)
  | some o => putF "_opening" (iN o) []
  | none => []
def rowFl (ho : Option Nat) (y p : Addr) : List (Str × V) := putF "_parts" (.ref p) (putF "layout" (.ref y) (opF ho))
theorem n_yp : ¬ (("layout" : Str) = "_parts") := by decide +kernel
theorem n_oy : ¬ (("_opening" : Str) = "layout") := by decide +kernel
theorem rowFl_p (ho : Option Nat) (y p : Addr) : (rowFl ho y p).lookup ("_parts" : Str) = some (.ref p) := by unfold rowFl; rw [lookup_putF, if_pos rfl]
theorem rowFl_y (ho : Option Nat) (y p : Addr) : (rowFl ho y p).lookup ("layout" : Str) = some (.ref y) := by unfold rowFl; rw [lookup_putF, if_neg n_yp, lookup_putF, if_pos rfl]
theorem opF_len (ho : Option Nat) : (opF ho).length ≤ 1 := by cases ho <;> simp [opF, putF]
theorem stds_len (ds : List PyData) : (stds ds).length = (spread ds).length := by
  unfold stds
  rw [List.length_take, runs_len, List.length_replicate]
  omega
section
variable {P : Program} {w : World} {K : PySem.W.Frag} {mg : Str → Option Value} {base : Heap} {lt0 lt1 lt2 lt3 lt4 : Tok} {t0 t1 t2 t3 t4 t5 t6 t7 t8 tF tO dC : Addr}
theorem lay_pl {C : Addr} {H : Hp} {y dx p l s : Addr} {zs : List V} {ds : List PyData} {i : Nat} {d : PyData} {bs : List Nat} {t : St3} (h1 : H y = some (.ins C dx (layF p l s (spread ds).length))) (h2 : Dp K H (.ref p) (.tuple (spread ds))) (h3 : Dp K H (.ref l) (.tuple ((leads (spread ds).length 0 ds).map ldD))) (h4 : H s = some (.tup zs)) (h5 : StAll K H zs (stds ds))
    (hd : (spread ds)[i]? = some d) (hb : (leads (spread ds).length 0 ds)[i]? = some bs) (ht : (stds ds)[i]? = some t) : PlAt K C H y dx p l s (spread ds).length i d bs t := by
  refine ⟨h1, ?_, ?_, ?_⟩
  · cases h2 with
    | tup a b =>
      have hl := dpAll_len b
      have hi := (List.getElem?_eq_some_iff.mp hd).1
      rename_i vs
      have hv : vs[i]? = some (vs[i]'(by omega)) := List.getElem?_eq_getElem (by omega)
      exact ⟨_, _, a, hv, dpAll_at b hv hd⟩
  · cases h3 with
    | tup a b =>
      have hl := dpAll_len b
      rw [List.length_map] at hl
      have hi := (List.getElem?_eq_some_iff.mp hb).1
      rename_i vs
      have hv : vs[i]? = some (vs[i]'(by omega)) := List.getElem?_eq_getElem (by omega)
      obtain ⟨a', e, hs⟩ := dp_ld (dpAll_at b hv (d := ldD bs) (by rw [List.getElem?_map, hb]; rfl))
      rw [e] at hv
      exact ⟨_, a', a, hv, hs⟩
  · obtain ⟨a, e, hs⟩ := h5.2 i t ht
    exact ⟨zs, a, .inl (.inl h4), e, hs⟩
theorem LayAt.keep {C C' : Addr} {H H' : Hp} {x dx' y : Addr} {fs : List (Str × V)} {ds : List PyData} (h : LayAt K C H y ds) (k : Keep x H H') (hx : H x = some (.ins C' dx' fs)) (hne : y ≠ x) : LayAt K C H' y ds := by
  obtain ⟨dx, p, l, s, zs, h1, h2, h3, h4, h5⟩ := h
  refine ⟨dx, p, l, s, zs, k y hne _ h1, dp_keep k hx _ _ h2, dp_keep k hx _ _ h3, k s (fun z => by rw [z, hx] at h4; cases h4) _ h4, h5.1, fun i t e => ?_⟩
  obtain ⟨a, g1, g2⟩ := h5.2 i t e
  exact ⟨a, g1, sqT_keep k hx g2⟩
theorem LayAt.same {C : Addr} {H H' : Hp} {y : Addr} {ds : List PyData} (h : LayAt K C H y ds) (k : Same H H') : LayAt K C H' y ds := by
  obtain ⟨dx, p, l, s, zs, h1, h2, h3, h4, h5⟩ := h
  exact ⟨dx, p, l, s, zs, k _ _ h1, dp_same k _ _ h2, dp_same k _ _ h3, k _ _ h4, h5.same k⟩
/-- a row of hands or works, as it lies -/
def RowH (K : PySem.W.Frag) (C CL : Addr) (H : Hp) (r : Addr) (ho : Option Nat) (ds : List PyData) : Prop := ∃ dx y p : Addr, H r = some (.ins C dx (rowFl ho y p)) ∧ LayAt K CL H y ds ∧ Val K H (.ref p) (.tuple ds)
theorem RowH.same {C CL : Addr} {H H' : Hp} {r : Addr} {ho : Option Nat} {ds : List PyData} (h : RowH K C CL H r ho ds) (k : Same H H') : RowH K C CL H' r ho ds := by
  obtain ⟨dx, y, p, h1, h2, h3⟩ := h
  exact ⟨dx, y, p, k _ _ h1, h2.same k, h3.same k⟩
/-- the class of a row -/
structure RwT (K : PySem.W.Frag) (mg : Str → Option Value) (nm : Str) (C : Addr) : Prop where
  mgC : mg nm = some (.ref C)
  cl : Cls K C
  nP : NoAttr K C "_parts"
  nY : NoAttr K C "layout"
  nO : NoAttr K C "_opening"
theorem keep_free {x a : Addr} {H H' : Hp} {ob : HO} (k : Keep x H H') (h1 : H' x = some ob) (h2 : H' a = none) : H a = none := by
  by_cases e : a = x
  · rw [e, h1] at h2
    cases h2
  · cases h : H a with
    | none => rfl
    | some o2 =>
      rw [k a e o2 h] at h2
      cases h2
def spRowHI (K : PySem.W.Frag) (C CL S : Addr) (hand : Bool) : Sp := fun vs H Q E => ∃ (x p dx : Addr) (ds : List PyData), vs = [.ref x, .ref p] ∧ H x = some (.ins C dx []) ∧ Val K H (.ref p) (.tuple ds) ∧ (progF hand ds = none → ∀ ho H', Keep x H H' → RowH K C CL H' x ho ds → Q .non H') ∧
  ∀ r, progF hand ds = some r → ∀ (a : Addr) (H' : Hp), H a = none → Keep x H H' → H' a = some (.xd [("number", numV r)]) → E (.ref S) (some a) H'
/-- places checked, their layout told -/
theorem places_of {CL : Addr} {H : Hp} {y : Addr} {ds : List PyData} (h : LayAt K CL H y ds) (hok : ∀ d ∈ ds, itOk d) : ∃ dx p l s : Addr, H y = some (.ins CL dx (layF p l s (spread ds).length)) ∧ ∃ ps, SqT K H p ps ∧ (∀ i, (gAt ds i).isSome = true → i < ps.length) ∧ ∀ (i : Nat) (v : V), ps[i]? = some v → ∃ d bs t, gAt ds i = some (d, bs, t) ∧ PlAt K CL H y dx p l s (spread ds).length i d bs t ∧ Dp K H v d ∧ ItemD d ∧ (headW d = "let" → ∃ x, bs = [x]) := by
  obtain ⟨dx, p, l, s, zs, h1, h2, h3, h4, h5⟩ := h
  obtain ⟨ps, a, b⟩ : ∃ ps : List V, SqT K H p ps ∧ DpAll K H ps (spread ds) := by
    cases h2 with
    | tup a b => exact ⟨_, a, b⟩
  have hl := dpAll_len b
  refine ⟨dx, p, l, s, h1, ps, a, fun i hi => by rw [hl]; exact (gAt_len ds i).mp hi, fun i v hv => ?_⟩
  have hi := (List.getElem?_eq_some_iff.mp hv).1
  obtain ⟨⟨d, bs, t⟩, hg⟩ := Option.isSome_iff_exists.mp ((gAt_len ds i).mpr (by omega))
  obtain ⟨g1, g2, g3, g4⟩ := gAt_at hok hg
  exact ⟨d, bs, t, hg, lay_pl h1 h2 h3 h4 h5 g1 g2 g3, dpAll_at b hv g1, (spread_form hok d (List.mem_of_getElem? g1)).1, g4⟩
/-- the forms -/
theorem prog_form {hand : Bool} {ds : List PyData} {r : Option Nat} (h : formF ds = some r) : progF hand ds = some r := by
  unfold progF
  rw [h]
theorem form_ok {ds : List PyData} (h : ∀ d ∈ ds, itOk d) (h1 : 1 ≤ (spread ds).length) (h14 : (spread ds).length ≤ 14) : formF ds = none := by
  unfold formF
  rw [formB_none 0 h]
  exact if_pos ⟨h1, h14⟩
theorem form_none {ds : List PyData} (h : ∀ d ∈ ds, itOk d) (h1 : ¬ (1 ≤ (spread ds).length ∧ (spread ds).length ≤ 14)) : formF ds = some none := by
  unfold formF
  rw [formB_none 0 h]
  exact if_neg h1
theorem form_some {ds : List PyData} {n : Nat} (h : formB 0 ds = some n) : formF ds = some (some n) := by
  unfold formF
  rw [h]
theorem sc_hr_init : FnScope ["self", "items"] ["self", "items"] (defScope sHR_init) := ⟨rfl, rfl, rfl, by decide +kernel, rfl, by decide +kernel, by decide +kernel⟩
theorem ok_hr_init {C CL : Addr} {f : Addr} {fd : FuncData} (F : Fun K "__init__" "HandRow.__init__" sHR_init f fd) (T : Txt K mg lt0 lt1 lt2 lt3 lt4 t0 t1 t2 t3 t4 t5 t6 t7 t8 tF tO dC) (CT : RwT K mg "HandRow" C) (CL_ : LyT K mg CL) {fLI : Addr} (ML : Mk K CL fLI) (RL : FnR P w K mg base CX0 3 fLI (spLayI K CL)) {S : Addr} {f1 : Addr} {fd1 : FuncData} (F_check_items : Fun K "check_items" "check_items" s_check_items f1 fd1) (b_check_items : Binds K fd1 ["parts"] []) (g_check_items : mg "check_items" = some (.ref f1)) (G_check_items : FnOk P w K mg base (L2.CX P w) 7 f1 fd1 ["parts"] (spItems K S)) {f2 : Addr} {fd2 : FuncData} (F_opening_of : Fun K "opening_of" "opening_of" s_opening_of f2 fd2) (b_opening_of : Binds K fd2 ["parts"] []) (g_opening_of : mg "opening_of" = some (.ref f2)) (G_opening_of : FnOk P w K mg base (L2.CX P w) 3 f2 fd2 ["parts"] (spOpen K S tO)) (hO : ∀ H, Dp K H (.ref tO) (.tuple (opens.map strsD))) {f3 : Addr} {fd3 : FuncData} (F_check_places : Fun K "check_places" "check_places" s_check_places f3 fd3) (b_check_places : Binds K fd3 ["layout", "opening", "barred"] []) (g_check_places : mg "check_places" = some (.ref f3)) (G_check_places : FnOk P w K mg base (L2.CX P w) 3 f3 fd3 ["layout", "opening", "barred"] (spPlaces K CL S)) :
    FnR P w K mg base (L2.CX P w) 8 f (spStar 1 (spRowHI K C CL S true)) := by
  refine Fun.star1 (p1 := "self") (pv := "items") F sc_hr_init StX.cxUp (fun _ _ _ _ _ _ _ => rfl) (fun _ _ _ _ _ _ _ _ _ => rfl) (fun cdv A outer s H vs Q E hr h => ?_)
  obtain ⟨x, p, dx, ds, rfl, hx, hv, q, qe⟩ := h
  refine ⟨_, (pss_cons (ps_expr (pe_call G_check_items hr (by rfl) g_check_items F_check_items.kp b_check_items .nil (passX (takes_of rfl rfl rfl rfl)) (pa_cons (pv 1) pa_nil)))
    (pss_cons (ps_fld (pv 0) (pe_call G_opening_of (hr.mono (by decide)) (by rfl) g_opening_of F_opening_of.kp b_opening_of .nil (passX (takes_of rfl rfl rfl rfl)) (pa_cons (pv 1) pa_nil)) rfl)
    (pss_cons (ps_fld (pv 0) (pe_makeRS (E := fun _ => E0) ML RL (hr.mono (by decide)) rfl CL_.mgC (pat pass0) (pa_cons (pv 1) pa_nil)) rfl)
    (pss_cons (ps_expr (pe_call G_check_places (hr.mono (by decide)) (by rfl) g_check_places F_check_places.kp b_check_places .nil (passX (takes_of rfl rfl rfl rfl)) (pa_cons (pe_fld (pv 0) rfl) (pa_cons (pe_fld (pv 0) rfl) (pa_cons (pe_glob (v := .ref t7) rfl T.c_NOT_BEHIND_OPENING rfl) pa_nil)))))
    (pss_one (ps_fld (pv 0) (pv 1) rfl)))))), ?_⟩
  refine ⟨_, rfl, _, ds, rfl, hv, fun hok hl1 hl14 H1 s1 => ?_, fun hok hn a H' g1 g2 g3 => qe _ (prog_form (form_none hok hn)) a H' g1 (keep_of g2) g3, fun i d hi hk => ⟨fun hh j z hj hz hl a H' g1 g2 g3 => qe _ (prog_form (form_some (formB_head hi hk hh hj hz hl))) a H' g1 (keep_of g2) g3, fun hh hi2 a H' g1 g2 g3 => qe _ (prog_form (form_some (formB_item hi hk hh hi2))) a H' g1 (keep_of g2) g3⟩⟩
  have ins : ∀ d ∈ ds, ItemD d := fun d hd => (itOk_form (hok d hd)).1.1
  have sins : ∀ d ∈ spread ds, ItemD d := fun d hd => (spread_form hok d hd).1
  have hP : progF true ds = match openF (ds.map headW) with | .inr r => some r | .inl o => (badF o wNotB ds).map some := by
    unfold progF
    rw [form_ok hok hl1 hl14]
    rfl
  refine ⟨_, rfl, _, ds, rfl, (hv.same s1).dp.1, fun d hd => ⟨ins d hd, (itOk_form (hok d hd)).1.2.1⟩, hO, fun o hoF H2 s2 => ?_, fun r hr2 a H' g1 g2 g3 => qe r (by rw [hP, hr2]) a H' (s1.free g1) (keep_of (s1.trans g2)) g3⟩
  rw [hoF] at hP
  have hP : progF true ds = (badF o wNotB ds).map some := hP
  have s2 := s1.trans s2
  refine ⟨_, rfl, x, C, dx, [], rfl, s2 _ _ hx, CT.cl, CT.nO, (by show 0 < 1000; decide), ?_⟩
  have k3 : Keep x H (upd H2 x (.ins C dx (opF (some o)))) := keep_same2 s2
  have h3x : upd H2 x (.ins C dx (opF (some o))) x = some (.ins C dx (opF (some o))) := upd_same
  show tSeq _ _ _ _ (upd H2 x (.ins C dx (opF (some o))))
  generalize upd H2 x (.ins C dx (opF (some o))) = H3 at k3 h3x ⊢
  have v3_ := val_keep hv k3 hx
  refine ⟨_, rfl, fun y dy hy hdy hne => ?_⟩
  have hyx : y ≠ x := fun z => by rw [z, h3x] at hy; cases hy
  have s4 : Same H3 (upd (upd H3 dy (.own y)) y (.ins CL dy [])) := (same_upd hdy).trans (same_upd (by rw [upd_ne hne.symm]; exact hy))
  refine ⟨y, dy, _, ds, rfl, upd_same, (v3_.same s4).dp.1, ins, sins, (Nat.le_trans hl14 (by show 14 ≤ 100; decide)), fun H5 k5 hL => ⟨rfl, ?_⟩⟩
  have s5 : Same H3 H5 := keep_same k5 s4 hy
  have h5x := s5 _ _ h3x
  refine ⟨_, rfl, x, C, dx, _, rfl, h5x, CT.cl, CT.nY, (by show 1 < 1000; decide), ?_⟩
  have k6 : Keep x H5 (upd H5 x (.ins C dx (putF "layout" (.ref y) (opF (some o))))) := keep_same2 (Same.refl _)
  have h6x : upd H5 x (.ins C dx (putF "layout" (.ref y) (opF (some o)))) x = some (.ins C dx (putF "layout" (.ref y) (opF (some o)))) := upd_same
  show tSeq _ _ _ _ (upd H5 x (.ins C dx (putF "layout" (.ref y) (opF (some o)))))
  generalize upd H5 x (.ins C dx (putF "layout" (.ref y) (opF (some o)))) = H6 at k6 h6x ⊢
  have hL6 := hL.keep k6 h5x hyx
  obtain ⟨dxl, pl, ll, sl, hy6, hall⟩ := places_of hL6 hok
  have k6 : Keep x H H6 := keep_tr k3 (keep_tr (keep_of s5) k6)
  refine ⟨_, rfl, x, C, dx, _, V.ref y, rfl, h6x, CT.cl, CT.nY, (by rw [lookup_putF, if_pos rfl]), _, rfl, x, C, dx, _, iN o, rfl, h6x, CT.cl, CT.nO, (by rw [lookup_putF, if_neg n_oy]; unfold opF; rw [lookup_putF, if_pos rfl]), y, dxl, pl, ll, sl, t7, _, o, wNotB, gAt ds, rfl, hy6, T.w7 _, hall, fun hbad H7 s7 => ?_, fun i d bs t hg hb hf a H' g1 g2 g3 => qe (some i) (by rw [hP, badF_at hg hb hf]; rfl) a H' (keep_free k6 h6x g1) (keep_tr k6 (keep_of g2)) g3⟩
  have hnb : badF o wNotB ds = none := by
    refine List.find?_eq_none.mpr fun i hi => ?_
    unfold badI
    cases hg : gAt ds i with
    | none => exact fun z => nomatch z
    | some g3 =>
      obtain ⟨d, bs, t⟩ := g3
      show ¬ badP o wNotB (spread ds).length i d bs t = true
      rw [hbad i d bs t hg]
      decide
  have h7x := s7 _ _ h6x
  have k7 : Keep x H H7 := keep_tr k6 (keep_of s7)
  refine ⟨_, rfl, _, rfl, x, C, dx, _, rfl, h7x, CT.cl, CT.nP, (by show 2 < 1000; decide), q (by rw [hP, hnb]; rfl) _ _ (keep_tr k7 (keep_same2 (Same.refl _))) ⟨dx, y, p, upd_same, (hL6.same s7).keep (keep_same2 (Same.refl _)) h7x hyx, val_keep (val_keep hv k7 hx) (keep_same2 (Same.refl _)) h7x⟩⟩
theorem sc_wr_init : FnScope ["self", "items"] ["self", "items"] (defScope sWR_init) := ⟨rfl, rfl, rfl, by decide +kernel, rfl, by decide +kernel, by decide +kernel⟩
theorem ok_wr_init {C CL : Addr} {f : Addr} {fd : FuncData} (F : Fun K "__init__" "WorkRow.__init__" sWR_init f fd) (T : Txt K mg lt0 lt1 lt2 lt3 lt4 t0 t1 t2 t3 t4 t5 t6 t7 t8 tF tO dC) (CT : RwT K mg "WorkRow" C) (CL_ : LyT K mg CL) {fLI : Addr} (ML : Mk K CL fLI) (RL : FnR P w K mg base CX0 3 fLI (spLayI K CL)) {S : Addr} {f1 : Addr} {fd1 : FuncData} (F_check_items : Fun K "check_items" "check_items" s_check_items f1 fd1) (b_check_items : Binds K fd1 ["parts"] []) (g_check_items : mg "check_items" = some (.ref f1)) (G_check_items : FnOk P w K mg base (L2.CX P w) 7 f1 fd1 ["parts"] (spItems K S)) {f3 : Addr} {fd3 : FuncData} (F_check_places : Fun K "check_places" "check_places" s_check_places f3 fd3) (b_check_places : Binds K fd3 ["layout", "opening", "barred"] []) (g_check_places : mg "check_places" = some (.ref f3)) (G_check_places : FnOk P w K mg base (L2.CX P w) 3 f3 fd3 ["layout", "opening", "barred"] (spPlaces K CL S)) :
    FnR P w K mg base (L2.CX P w) 8 f (spStar 1 (spRowHI K C CL S false)) := by
  refine Fun.star1 (p1 := "self") (pv := "items") F sc_wr_init StX.cxUp (fun _ _ _ _ _ _ _ => rfl) (fun _ _ _ _ _ _ _ _ _ => rfl) (fun cdv A outer s H vs Q E hr h => ?_)
  obtain ⟨x, p, dx, ds, rfl, hx, hv, q, qe⟩ := h
  refine ⟨_, (pss_cons (ps_expr (pe_call G_check_items hr (by rfl) g_check_items F_check_items.kp b_check_items .nil (passX (takes_of rfl rfl rfl rfl)) (pa_cons (pv 1) pa_nil)))
    (pss_cons (ps_fld (pv 0) (pe_makeRS (E := fun _ => E0) ML RL (hr.mono (by decide)) rfl CL_.mgC (pat pass0) (pa_cons (pv 1) pa_nil)) rfl)
    (pss_cons (ps_expr (pe_call G_check_places (hr.mono (by decide)) (by rfl) g_check_places F_check_places.kp b_check_places .nil (passX (takes_of rfl rfl rfl rfl)) (pa_cons (pe_fld (pv 0) rfl) (pa_cons pe_int (pa_cons (pe_glob (v := .ref t8) rfl T.c_NOT_IN_WORKS rfl) pa_nil)))))
    (pss_one (ps_fld (pv 0) (pv 1) rfl))))), ?_⟩
  refine ⟨_, rfl, _, ds, rfl, hv, fun hok hl1 hl14 H1 s1 => ?_, fun hok hn a H' g1 g2 g3 => qe _ (prog_form (form_none hok hn)) a H' g1 (keep_of g2) g3, fun i d hi hk => ⟨fun hh j z hj hz hl a H' g1 g2 g3 => qe _ (prog_form (form_some (formB_head hi hk hh hj hz hl))) a H' g1 (keep_of g2) g3, fun hh hi2 a H' g1 g2 g3 => qe _ (prog_form (form_some (formB_item hi hk hh hi2))) a H' g1 (keep_of g2) g3⟩⟩
  have ins : ∀ d ∈ ds, ItemD d := fun d hd => (itOk_form (hok d hd)).1.1
  have sins : ∀ d ∈ spread ds, ItemD d := fun d hd => (spread_form hok d hd).1
  have hP : progF false ds = (badF 0 wNotW ds).map some := by
    unfold progF
    rw [form_ok hok hl1 hl14]
    rfl
  have k3 : Keep x H H1 := keep_of s1
  have h3x : H1 x = some (.ins C dx (opF none)) := s1 _ _ hx
  generalize H1 = H3 at k3 h3x ⊢
  have v3_ := val_keep hv k3 hx
  refine ⟨_, rfl, fun y dy hy hdy hne => ?_⟩
  have hyx : y ≠ x := fun z => by rw [z, h3x] at hy; cases hy
  have s4 : Same H3 (upd (upd H3 dy (.own y)) y (.ins CL dy [])) := (same_upd hdy).trans (same_upd (by rw [upd_ne hne.symm]; exact hy))
  refine ⟨y, dy, _, ds, rfl, upd_same, (v3_.same s4).dp.1, ins, sins, (Nat.le_trans hl14 (by show 14 ≤ 100; decide)), fun H5 k5 hL => ⟨rfl, ?_⟩⟩
  have s5 : Same H3 H5 := keep_same k5 s4 hy
  have h5x := s5 _ _ h3x
  refine ⟨_, rfl, x, C, dx, _, rfl, h5x, CT.cl, CT.nY, (by show 0 < 1000; decide), ?_⟩
  have k6 : Keep x H5 (upd H5 x (.ins C dx (putF "layout" (.ref y) (opF none)))) := keep_same2 (Same.refl _)
  have h6x : upd H5 x (.ins C dx (putF "layout" (.ref y) (opF none))) x = some (.ins C dx (putF "layout" (.ref y) (opF none))) := upd_same
  show tSeq _ _ _ _ (upd H5 x (.ins C dx (putF "layout" (.ref y) (opF none))))
  generalize upd H5 x (.ins C dx (putF "layout" (.ref y) (opF none))) = H6 at k6 h6x ⊢
  have hL6 := hL.keep k6 h5x hyx
  obtain ⟨dxl, pl, ll, sl, hy6, hall⟩ := places_of hL6 hok
  have k6 : Keep x H H6 := keep_tr k3 (keep_tr (keep_of s5) k6)
  refine ⟨_, rfl, x, C, dx, _, V.ref y, rfl, h6x, CT.cl, CT.nY, (by rw [lookup_putF, if_pos rfl]), y, dxl, pl, ll, sl, t8, _, 0, wNotW, gAt ds, rfl, hy6, T.w8 _, hall, fun hbad H7 s7 => ?_, fun i d bs t hg hb hf a H' g1 g2 g3 => qe (some i) (by rw [hP, badF_at hg hb hf]; rfl) a H' (keep_free k6 h6x g1) (keep_tr k6 (keep_of g2)) g3⟩
  have hnb : badF 0 wNotW ds = none := by
    refine List.find?_eq_none.mpr fun i hi => ?_
    unfold badI
    cases hg : gAt ds i with
    | none => exact fun z => nomatch z
    | some g3 =>
      obtain ⟨d, bs, t⟩ := g3
      show ¬ badP 0 wNotW (spread ds).length i d bs t = true
      rw [hbad i d bs t hg]
      decide
  have h7x := s7 _ _ h6x
  have k7 : Keep x H H7 := keep_tr k6 (keep_of s7)
  refine ⟨_, rfl, _, rfl, x, C, dx, _, rfl, h7x, CT.cl, CT.nP, (by show 1 < 1000; decide), q (by rw [hP, hnb]; rfl) _ _ (keep_tr k7 (keep_same2 (Same.refl _))) ⟨dx, y, p, upd_same, (hL6.same s7).keep (keep_same2 (Same.refl _)) h7x hyx, val_keep (val_keep hv k7 hx) (keep_same2 (Same.refl _)) h7x⟩⟩
theorem sc_hr_of : FnScope ["items"] ["items"] (defScope sHR_of) := ⟨rfl, rfl, rfl, by decide +kernel, rfl, by decide +kernel, by decide +kernel⟩
def spHrOf (K : PySem.W.Frag) (C CL S : Addr) : Sp := fun vs H Q E => ∃ (x : V) (d : PyData), vs = [x] ∧ Val K H x d ∧ (rowOf d = none → ∀ (a : Addr) (H' : Hp), H a = none → Same H H' → H' a = some (.xd [("number", .non)]) → E (.ref S) (some a) H') ∧
  ∀ ds, rowOf d = some ds → (progF true ds = none → ∀ ho H' r, Same H H' → H r = none → RowH K C CL H' r ho ds → Q (.ref r) H') ∧ ∀ n, progF true ds = some n → ∀ (a : Addr) (H' : Hp), H a = none → Same H H' → H' a = some (.xd [("number", numV n)]) → E (.ref S) (some a) H'
theorem ok_hr_of {C CL f : Addr} {fd : FuncData} (F : Fun K "of" "HandRow.of" sHR_of f fd) (T : Txt K mg lt0 lt1 lt2 lt3 lt4 t0 t1 t2 t3 t4 t5 t6 t7 t8 tF tO dC) (CT : RwT K mg "HandRow" C) {S fS : Addr} (TS : ExT K mg "InvalidItem" "number" S fS) {fdS : FuncData} (bS : Binds K fdS ["self", "number"] []) (GS : FnOk P w K mg base CX0 1 fS fdS ["self", "number"] (spExI S "number")) {fI : Addr} (M : Mk K C fI) (GI : FnR P w K mg base (L2.CX P w) 8 fI (spStar 1 (spRowHI K C CL S true))) : FnOk P w K mg base (L2.CX P w) 10 f fd ["items"] (spHrOf K C CL S) := by
  refine F.okX sc_hr_of (fun vs H Q E h => ?_) (fun cdv A outer s H vs Q E hr h => ?_)
  · obtain ⟨x, d, rfl, _⟩ := h
    rfl
  · obtain ⟨x, d, rfl, hv, qn, qs⟩ := h
    have hr2 : Room 2 _ := hr.mono (by decide)
    refine ⟨_, (pss_cons (ps_if (pt_not (pt_val (pe_callB call_isiT (by rfl) T.m_isinstance (by decide +kernel) (pa_cons (pv 0) (pa_cons (pe_tup (pa_cons (pe_bltn (v := .ty "tuple") (u := .type "tuple") (by rfl) T.m_tuple (by decide +kernel) rfl) (pa_cons (pe_bltn (v := .ty "list") (u := .type "list") (by rfl) T.m_list (by decide +kernel) rfl) pa_nil))) pa_nil)))))
        (pss_one (ps_raise rfl (takes_of rfl rfl rfl rfl) (pmk_oex TS.o TS.i TS.t GS hr2 bS .nil pass0 rfl TS.g (pa_cons pe_non pa_nil)))) pss_nil)
      (pss_one (ps_ret (pe_makeSt (E := fun _ => E) M GI hr rfl CT.mgC (pat (passX (takes_of rfl rfl rfl rfl))) (pv 0))))), ?_⟩
    refine ⟨_, rfl, (by show 2 ≤ sizeLine; decide), fun t ht => ?_⟩
    have s1 : Same H (upd H t (.tup [V.ty "tuple", V.ty "list"])) := same_upd ht
    refine ⟨x, t, _, _, _, _, rfl, upd_same, .cons (.ty "tuple") (.cons (.ty "list") .nil), (hv.same s1).ty, any_tl d, _, rfl, ?_⟩
    cases e : rowOf d with
    | none => exact iteT (mko fun a H' g1 g2 g3 => qn e a H' (s1.free g1) (s1.trans g2) g3)
    | some ds =>
    obtain ⟨q, qe⟩ := qs ds e
    obtain ⟨a, xs, rfl, hs, ha, hg⟩ := val_items hv e
    have hs1 : SqT K (upd H t (.tup [V.ty "tuple", V.ty "list"])) a xs ∨ SqL K (upd H t (.tup [V.ty "tuple", V.ty "list"])) a xs := hs.elim (fun z => .inl (Same.seqT s1 z)) fun z => .inr (s1.seq z)
    have ha1 := dpAll_same s1 _ _ ha
    have hlen := dpAll_len ha
    have h1000 := (Good.tup (n := 59)).mp hg
    refine ⟨_, rfl, a, xs, rfl, hs1, fun x dx hx hdx hne => ⟨[.ref x], xs, rfl, rfl, Nat.le_of_lt (small1000 (by omega)), fun p ob hp hcl hob => ?_⟩⟩
    have s2 : Same (upd H t (.tup [V.ty "tuple", V.ty "list"])) (upd (upd (upd (upd H t (.tup [V.ty "tuple", V.ty "list"])) dx (.own x)) x (.ins C dx [])) p (.frz ob (.tup xs))) := ((same_upd hdx).trans (same_upd (by rw [upd_ne hne.symm]; exact hx))).trans (same_upd hp)
    have s3 := s1.trans s2
    have hxp : x ≠ p := ne_of_none upd_same hp
    refine ⟨x, p, dx, ds, rfl, by rw [upd_ne hxp]; exact upd_same, .inl ⟨.tup (.inl (.inr ⟨ob, upd_same⟩)) (dpAll_same s2 _ _ ha1), hg⟩, fun hpn ho H' k1 hrow => ⟨rfl, ?_⟩, fun n hn a H' g1 k1 g3 => qe n hn a H' (s3.free g1) (keep_same k1 s3 (s1.free hx)) g3⟩
    exact q hpn ho H' x (keep_same k1 s3 (s1.free hx)) (s1.free hx) hrow
theorem sc_wr_of : FnScope ["items"] ["items"] (defScope sWR_of) := ⟨rfl, rfl, rfl, by decide +kernel, rfl, by decide +kernel, by decide +kernel⟩
def spWrOf (K : PySem.W.Frag) (C CL S : Addr) : Sp := fun vs H Q E => ∃ (x : V) (d : PyData), vs = [x] ∧ Val K H x d ∧ (rowOf d = none → ∀ (a : Addr) (H' : Hp), H a = none → Same H H' → H' a = some (.xd [("number", .non)]) → E (.ref S) (some a) H') ∧
  ∀ ds, rowOf d = some ds → (progF false ds = none → ∀ ho H' r, Same H H' → H r = none → RowH K C CL H' r ho ds → Q (.ref r) H') ∧ ∀ n, progF false ds = some n → ∀ (a : Addr) (H' : Hp), H a = none → Same H H' → H' a = some (.xd [("number", numV n)]) → E (.ref S) (some a) H'
theorem ok_wr_of {C CL f : Addr} {fd : FuncData} (F : Fun K "of" "WorkRow.of" sWR_of f fd) (T : Txt K mg lt0 lt1 lt2 lt3 lt4 t0 t1 t2 t3 t4 t5 t6 t7 t8 tF tO dC) (CT : RwT K mg "WorkRow" C) {S fS : Addr} (TS : ExT K mg "InvalidItem" "number" S fS) {fdS : FuncData} (bS : Binds K fdS ["self", "number"] []) (GS : FnOk P w K mg base CX0 1 fS fdS ["self", "number"] (spExI S "number")) {fI : Addr} (M : Mk K C fI) (GI : FnR P w K mg base (L2.CX P w) 8 fI (spStar 1 (spRowHI K C CL S false))) : FnOk P w K mg base (L2.CX P w) 10 f fd ["items"] (spWrOf K C CL S) := by
  refine F.okX sc_wr_of (fun vs H Q E h => ?_) (fun cdv A outer s H vs Q E hr h => ?_)
  · obtain ⟨x, d, rfl, _⟩ := h
    rfl
  · obtain ⟨x, d, rfl, hv, qn, qs⟩ := h
    have hr2 : Room 2 _ := hr.mono (by decide)
    refine ⟨_, (pss_cons (ps_if (pt_not (pt_val (pe_callB call_isiT (by rfl) T.m_isinstance (by decide +kernel) (pa_cons (pv 0) (pa_cons (pe_tup (pa_cons (pe_bltn (v := .ty "tuple") (u := .type "tuple") (by rfl) T.m_tuple (by decide +kernel) rfl) (pa_cons (pe_bltn (v := .ty "list") (u := .type "list") (by rfl) T.m_list (by decide +kernel) rfl) pa_nil))) pa_nil)))))
        (pss_one (ps_raise rfl (takes_of rfl rfl rfl rfl) (pmk_oex TS.o TS.i TS.t GS hr2 bS .nil pass0 rfl TS.g (pa_cons pe_non pa_nil)))) pss_nil)
      (pss_one (ps_ret (pe_makeSt (E := fun _ => E) M GI hr rfl CT.mgC (pat (passX (takes_of rfl rfl rfl rfl))) (pv 0))))), ?_⟩
    refine ⟨_, rfl, (by show 2 ≤ sizeLine; decide), fun t ht => ?_⟩
    have s1 : Same H (upd H t (.tup [V.ty "tuple", V.ty "list"])) := same_upd ht
    refine ⟨x, t, _, _, _, _, rfl, upd_same, .cons (.ty "tuple") (.cons (.ty "list") .nil), (hv.same s1).ty, any_tl d, _, rfl, ?_⟩
    cases e : rowOf d with
    | none => exact iteT (mko fun a H' g1 g2 g3 => qn e a H' (s1.free g1) (s1.trans g2) g3)
    | some ds =>
    obtain ⟨q, qe⟩ := qs ds e
    obtain ⟨a, xs, rfl, hs, ha, hg⟩ := val_items hv e
    have hs1 : SqT K (upd H t (.tup [V.ty "tuple", V.ty "list"])) a xs ∨ SqL K (upd H t (.tup [V.ty "tuple", V.ty "list"])) a xs := hs.elim (fun z => .inl (Same.seqT s1 z)) fun z => .inr (s1.seq z)
    have ha1 := dpAll_same s1 _ _ ha
    have hlen := dpAll_len ha
    have h1000 := (Good.tup (n := 59)).mp hg
    refine ⟨_, rfl, a, xs, rfl, hs1, fun x dx hx hdx hne => ⟨[.ref x], xs, rfl, rfl, Nat.le_of_lt (small1000 (by omega)), fun p ob hp hcl hob => ?_⟩⟩
    have s2 : Same (upd H t (.tup [V.ty "tuple", V.ty "list"])) (upd (upd (upd (upd H t (.tup [V.ty "tuple", V.ty "list"])) dx (.own x)) x (.ins C dx [])) p (.frz ob (.tup xs))) := ((same_upd hdx).trans (same_upd (by rw [upd_ne hne.symm]; exact hx))).trans (same_upd hp)
    have s3 := s1.trans s2
    have hxp : x ≠ p := ne_of_none upd_same hp
    refine ⟨x, p, dx, ds, rfl, by rw [upd_ne hxp]; exact upd_same, .inl ⟨.tup (.inl (.inr ⟨ob, upd_same⟩)) (dpAll_same s2 _ _ ha1), hg⟩, fun hpn ho H' k1 hrow => ⟨rfl, ?_⟩, fun n hn a H' g1 k1 g3 => qe n hn a H' (s3.free g1) (keep_same k1 s3 (s1.free hx)) g3⟩
    exact q hpn ho H' x (keep_same k1 s3 (s1.free hx)) (s1.free hx) hrow
end
end K05

namespace K05
open PySem PySem.Spec PyProof.Rows L2 TL GG
section
variable {P : Program} {w : World} {K : PySem.W.Frag} {mg : Str → Option Value} {base : Heap}
def spClosing (K : PySem.W.Frag) : Sp := fun vs H Q _ => ∃ (p : Addr) (u l t : Bool) (m : Int) (R : Hp), vs = [.ref p, .bl u, .bl l, .bl t, .int m] ∧ 0 < m ∧ Rest p R H ∧ ∀ x R' H' c, Go p R H R' H' → LD K R' x c → IsClosing u l t c → Q x H'
theorem sc_l_closing : FnScope ["_law_pool_here", "_law_under", "_law_locked", "_law_lets", "_law_leak", "_law_found"] ["_law_pool_here", "_law_under", "_law_locked", "_law_lets", "_law_leak"] (defScope s_l_closing) := ⟨rfl, rfl, rfl, by decide +kernel, rfl, by decide +kernel, by decide +kernel⟩
theorem ok_l_closing {f : Addr} {fd : FuncData} (F : Fun K "_law_closing" "_law_closing" s_l_closing f fd) (T : Blt K mg) {f1 : Addr} {fd1 : FuncData} (F_l_draw : Fun K "_law_draw" "_law_draw" s_l_draw f1 fd1) (b_l_draw : Binds K fd1 ["_law_pool_here", "_law_many"] []) (g_l_draw : mg "_law_draw" = some (.ref f1)) (G_l_draw : FnOk P w K mg base CX0 1 f1 fd1 ["_law_pool_here", "_law_many"] (spDraw K)) : FnOk P w K mg base CX0 2 f fd ["_law_pool_here", "_law_under", "_law_locked", "_law_lets", "_law_leak"] (spClosing K) := by
  refine F.ok sc_l_closing (fun vs H Q E h => ?_) (fun cdv A outer s H vs Q E hr h => ?_)
  · obtain ⟨p, u, l, t, m, R, rfl, _⟩ := h
    rfl
  · obtain ⟨p, u, l, t, m, R, rfl, hm, k, q⟩ := h
    refine ⟨_, (pss_cons (ps_set (i := 5) sc_l_closing.nd rfl (.inl rfl) (pe_op op_cat (pe_op op_rep (pe_lst (pa_cons (pe_tup (pa_cons pe_str pa_nil)) pa_nil)) (pe_callTy call_int1 (by rfl) T.m_int (by decide +kernel) (pa_cons (pv 2) pa_nil))) (pe_op op_rep (pe_lst (pa_cons (pe_tup (pa_cons pe_str pa_nil)) pa_nil)) (pe_callTy call_int1 (by rfl) T.m_int (by decide +kernel) (pa_cons (pv 1) pa_nil))))) 
        (pss_cons (ps_if (PW.pt (pw_and (pt_cmpR op_eq (pe_callB call_len_seq (by rfl) T.m_len PySem.boot_len (pa_cons (pv 5) pa_nil)) pe_int (nomark _)) (pw_and1 (pt_cmpR op_eq (pe_call G_l_draw hr (by rfl) g_l_draw F_l_draw.kp b_l_draw .nil pass0 (pa_cons (pv 0) (pa_cons pe_int pa_nil))) pe_int (nomark _))))) 
          (pss_one (ps_set (i := 5) sc_l_closing.nd rfl (.inl rfl) (pe_revL (pv 5)))) pss_nil) 
        (pss_one (ps_ret (pe_op op_cat (pv 5) (pe_op op_rep (pe_lst (pa_cons (pe_tup (pa_cons pe_str pa_nil)) pa_nil)) (pe_callTy call_int1 (by rfl) T.m_int (by decide +kernel) (pa_cons (pe_and (pv 3) (pe_one (pe_cmpR op_gt (pe_call G_l_draw hr (by rfl) g_l_draw F_l_draw.kp b_l_draw .nil pass0 (pa_cons (pv 0) (pa_cons (pv 4) pa_nil))) pe_int (nomark _)))) pa_nil)))))))), ?_⟩
    refine ⟨(by show 1 ≤ sizeLine; decide), fun u1 hu1 => ?_⟩
    obtain ⟨gi, d1⟩ := tup_new (K := K) (vs := [.str "unlock"]) (ds := [.str "unlock"]) k hu1 (.cons (.str _) .nil)
    have g := gi
    refine ⟨(by show 1 ≤ sizeLine; decide), fun l1 hl1 => ?_⟩
    obtain ⟨gi, f1⟩ := new1 g.rest d1 hl1
    replace g := g.trans gi
    refine ⟨_, rfl, .inr ⟨_, rfl, repL (K := K) g.rest f1 (by decide) fun x1 Ri Hi gi f1 => ?_⟩⟩
    replace g := g.trans gi
    refine ⟨(by show 1 ≤ sizeLine; decide), fun u2 hu2 => ?_⟩
    obtain ⟨gi, d2⟩ := tup_new (K := K) (vs := [.str "leave"]) (ds := [.str "leave"]) g.rest hu2 (.cons (.str _) .nil)
    replace g := g.trans gi
    replace f1 := f1.same gi.same
    refine ⟨(by show 1 ≤ sizeLine; decide), fun l2 hl2 => ?_⟩
    obtain ⟨gi, f2⟩ := new1 g.rest d2 hl2
    replace g := g.trans gi
    replace f1 := f1.same gi.same
    refine ⟨_, rfl, .inr ⟨_, rfl, repL (K := K) g.rest f2 (by decide) fun x2 Ri Hi gi f2 => ?_⟩⟩
    replace g := g.trans gi
    replace f1 := f1.same gi.same
    refine catL (K := K) g.rest f1 f2 (by cases l <;> cases u <;> decide) fun x3 Ri Hi gi f3 => ?_
    replace g := g.trans gi
    obtain ⟨a3, vs3, rfl, h3, h3'⟩ := id f3
    have hb : ((if l = true then [T1 "unlock"] else []) ++ (if u = true then [T1 "leave"] else []) : List PyData) = (if l = true then [T1 "unlock"] else []) ++ (if u = true then [T1 "leave"] else []) := rfl
    refine ⟨_, rfl, a3, vs3, rfl, .inl (.inl (.inl (g.rest.1 _ _ h3))), rfl, _, rfl, ite2 (fun _ => ⟨_, rfl, p, 2, _, rfl, by decide, g.rest, fun r Hr r0 r1 gi => ⟨rfl, _, rfl, ite2 (fun _ => ?rev) (fun _ => ?k1)⟩⟩) (fun _ => iteF ?k2)⟩
    case k1 =>
      replace g := g.trans gi
      replace f3 := f3.same gi.same
      have hq : ∀ k' : List PyData, (k' = [] ∨ (t = true ∧ k' = [T1 "let"])) → IsClosing u l t (((if l = true then [T1 "unlock"] else []) ++ (if u = true then [T1 "leave"] else [])) ++ k') := fun k' hk => ⟨_, k', rfl, hk, .inl rfl⟩
      have hbl : ((if l = true then [T1 "unlock"] else []) ++ (if u = true then [T1 "leave"] else []) : List PyData).length ≤ 10 := by cases l <;> cases u <;> decide
      refine ⟨_, rfl, (by show 1 ≤ sizeLine; decide), fun u5 hu5 => ?_⟩
      obtain ⟨gi, d5⟩ := tup_new (K := K) (vs := [.str "let"]) (ds := [.str "let"]) g.rest hu5 (.cons (.str _) .nil)
      replace g := g.trans gi
      replace f3 := f3.same gi.same
      refine ⟨(by show 1 ≤ sizeLine; decide), fun l6 hl6 => ?_⟩
      obtain ⟨gi, f6⟩ := new1 g.rest d5 hl6
      replace g := g.trans gi
      replace f3 := f3.same gi.same
      refine ⟨_, rfl, _, rfl, ite2 (fun ht => ⟨_, rfl, _, rfl, p, m, _, rfl, hm, g.rest, fun r2 Hr2 r20 r21 gi => ⟨_, _, rfl, rfl, .inr ⟨_, rfl, closeLast q (g.trans gi) (f3.same gi.same) (f6.same gi.same) hbl hq _ (fun _ => ht)⟩⟩⟩) (fun ht => .inr ⟨_, rfl, closeLast q g f3 f6 hbl hq false (fun h => by cases h)⟩)⟩
    case k2 =>
      have hq : ∀ k' : List PyData, (k' = [] ∨ (t = true ∧ k' = [T1 "let"])) → IsClosing u l t (((if l = true then [T1 "unlock"] else []) ++ (if u = true then [T1 "leave"] else [])) ++ k') := fun k' hk => ⟨_, k', rfl, hk, .inl rfl⟩
      have hbl : ((if l = true then [T1 "unlock"] else []) ++ (if u = true then [T1 "leave"] else []) : List PyData).length ≤ 10 := by cases l <;> cases u <;> decide
      refine ⟨_, rfl, (by show 1 ≤ sizeLine; decide), fun u5 hu5 => ?_⟩
      obtain ⟨gi, d5⟩ := tup_new (K := K) (vs := [.str "let"]) (ds := [.str "let"]) g.rest hu5 (.cons (.str _) .nil)
      replace g := g.trans gi
      replace f3 := f3.same gi.same
      refine ⟨(by show 1 ≤ sizeLine; decide), fun l6 hl6 => ?_⟩
      obtain ⟨gi, f6⟩ := new1 g.rest d5 hl6
      replace g := g.trans gi
      replace f3 := f3.same gi.same
      refine ⟨_, rfl, _, rfl, ite2 (fun ht => ⟨_, rfl, _, rfl, p, m, _, rfl, hm, g.rest, fun r2 Hr2 r20 r21 gi => ⟨_, _, rfl, rfl, .inr ⟨_, rfl, closeLast q (g.trans gi) (f3.same gi.same) (f6.same gi.same) hbl hq _ (fun _ => ht)⟩⟩⟩) (fun ht => .inr ⟨_, rfl, closeLast q g f3 f6 hbl hq false (fun h => by cases h)⟩)⟩
    case rev =>
      replace g := g.trans gi
      replace h3 := gi.same _ _ h3
      replace h3' := dpAll_same gi.same _ _ h3'
      refine ⟨_, rfl, a3, vs3, rfl, .inl (.inl (g.rest.1 _ _ h3)), fun l4 hl4 => ?_⟩
      have gi := Go.new (o := .lst vs3.reverse) g.rest hl4
      have f3 := revL g.rest hl4 h3'
      replace g := g.trans gi
      have hq : ∀ k' : List PyData, (k' = [] ∨ (t = true ∧ k' = [T1 "let"])) → IsClosing u l t ((((if l = true then [T1 "unlock"] else []) ++ (if u = true then [T1 "leave"] else []))).reverse ++ k') := fun k' hk => ⟨_, k', rfl, hk, .inr (by cases l <;> cases u <;> rfl)⟩
      have hbl : (((if l = true then [T1 "unlock"] else []) ++ (if u = true then [T1 "leave"] else []) : List PyData).reverse).length ≤ 10 := by cases l <;> cases u <;> decide
      refine ⟨_, rfl, (by show 1 ≤ sizeLine; decide), fun u5 hu5 => ?_⟩
      obtain ⟨gi, d5⟩ := tup_new (K := K) (vs := [.str "let"]) (ds := [.str "let"]) g.rest hu5 (.cons (.str _) .nil)
      replace g := g.trans gi
      replace f3 := f3.same gi.same
      refine ⟨(by show 1 ≤ sizeLine; decide), fun l6 hl6 => ?_⟩
      obtain ⟨gi, f6⟩ := new1 g.rest d5 hl6
      replace g := g.trans gi
      replace f3 := f3.same gi.same
      refine ⟨_, rfl, _, rfl, ite2 (fun ht => ⟨_, rfl, _, rfl, p, m, _, rfl, hm, g.rest, fun r2 Hr2 r20 r21 gi => ⟨_, _, rfl, rfl, .inr ⟨_, rfl, closeLast q (g.trans gi) (f3.same gi.same) (f6.same gi.same) hbl hq _ (fun _ => ht)⟩⟩⟩) (fun ht => .inr ⟨_, rfl, closeLast q g f3 f6 hbl hq false (fun h => by cases h)⟩)⟩
def spWayOut (K : PySem.W.Frag) : Sp := fun vs H Q _ => ∃ (p : Addr) (u l t : Bool) (R : Hp), vs = [.ref p, .bl u, .bl l, .bl t] ∧ Rest p R H ∧ ∀ x R' H' o, Go p R H R' H' → Dp K R' x (.tuple o) → (∀ ns ms, RowOk ns ms t false u l o) → o.length ≤ 4 → Q x H'
theorem sc_l_way_out : FnScope ["_law_pool_here", "_law_under", "_law_locked", "_law_lets", "_law_extra"] ["_law_pool_here", "_law_under", "_law_locked", "_law_lets"] (defScope s_l_way_out) := ⟨rfl, rfl, rfl, by decide +kernel, rfl, by decide +kernel, by decide +kernel⟩
theorem ok_l_way_out {f : Addr} {fd : FuncData} (F : Fun K "_law_way_out" "_law_way_out" s_l_way_out f fd) (T : Blt K mg) {f1 : Addr} {fd1 : FuncData} (F_l_draw : Fun K "_law_draw" "_law_draw" s_l_draw f1 fd1) (b_l_draw : Binds K fd1 ["_law_pool_here", "_law_many"] []) (g_l_draw : mg "_law_draw" = some (.ref f1)) (G_l_draw : FnOk P w K mg base CX0 1 f1 fd1 ["_law_pool_here", "_law_many"] (spDraw K)) {f2 : Addr} {fd2 : FuncData} (F_l_closing : Fun K "_law_closing" "_law_closing" s_l_closing f2 fd2) (b_l_closing : Binds K fd2 ["_law_pool_here", "_law_under", "_law_locked", "_law_lets", "_law_leak"] []) (g_l_closing : mg "_law_closing" = some (.ref f2)) (G_l_closing : FnOk P w K mg base CX0 2 f2 fd2 ["_law_pool_here", "_law_under", "_law_locked", "_law_lets", "_law_leak"] (spClosing K)) : FnOk P w K mg base CX0 3 f fd ["_law_pool_here", "_law_under", "_law_locked", "_law_lets"] (spWayOut K) := by
  refine F.ok sc_l_way_out (fun vs H Q E h => ?_) (fun cdv A outer s H vs Q E hr h => ?_)
  · obtain ⟨p, u, l, t, R, rfl, _⟩ := h
    rfl
  · obtain ⟨p, u, l, t, R, rfl, k, q⟩ := h
    refine ⟨_, (pss_cons (ps_set (i := 4) sc_l_way_out.nd rfl (.inl rfl) (pe_ix ix_list (pe_lst (pa_cons (pe_lst pa_nil) (pa_cons (pe_lst pa_nil) (pa_cons (pe_lst (pa_cons (pe_tup (pa_cons pe_str pa_nil)) pa_nil)) (pa_cons (pe_lst (pa_cons (pe_tup (pa_cons pe_str pa_nil)) pa_nil)) pa_nil))))) (pe_call G_l_draw (hr.mono (by decide)) (by rfl) g_l_draw F_l_draw.kp b_l_draw .nil pass0 (pa_cons (pv 0) (pa_cons pe_int pa_nil))) (fun _ _ => rfl))) 
        (pss_one (ps_ret (pe_callTy call_tuple_of (by rfl) T.m_tuple (by decide +kernel) (pa_cons (pe_op op_cat (pv 4) (pe_call G_l_closing hr (by rfl) g_l_closing F_l_closing.kp b_l_closing .nil pass0 (pa_cons (pv 0) (pa_cons (pv 1) (pa_cons (pv 2) (pa_cons (pv 3) (pa_cons pe_int pa_nil))))))) pa_nil))))), ?_⟩
    refine ⟨Nat.zero_le _, fun e1 he1 => ?_⟩
    have gi := Go.new (o := .lst []) k he1
    have f1 : LD K (upd R e1 (.lst [])) (.ref e1) [] := ⟨e1, _, rfl, upd_same, .nil⟩
    have g := gi
    refine ⟨Nat.zero_le _, fun e2 he2 => ?_⟩
    have f2 : LD K (upd _ e2 (.lst [])) (.ref e2) [] := ⟨e2, _, rfl, upd_same (H := upd R e1 (.lst [])), .nil⟩
    have gi := Go.new (o := .lst []) g.rest he2
    replace g := g.trans gi
    replace f1 := f1.same gi.same
    refine ⟨(by show 1 ≤ sizeLine; decide), fun u3 hu3 => ?_⟩
    obtain ⟨gi, d3⟩ := tup_new (K := K) (vs := [.str "touch"]) (ds := [.str "touch"]) g.rest hu3 (.cons (.str _) .nil)
    replace g := g.trans gi
    replace f1 := f1.same gi.same
    replace f2 := f2.same gi.same
    refine ⟨(by show 1 ≤ sizeLine; decide), fun l3 hl3 => ?_⟩
    obtain ⟨gi, f3⟩ := new1 g.rest d3 hl3
    replace g := g.trans gi
    replace f1 := f1.same gi.same
    replace f2 := f2.same gi.same
    refine ⟨(by show 1 ≤ sizeLine; decide), fun u4 hu4 => ?_⟩
    obtain ⟨gi, d4⟩ := tup_new (K := K) (vs := [.str "use"]) (ds := [.str "use"]) g.rest hu4 (.cons (.str _) .nil)
    replace g := g.trans gi
    replace f1 := f1.same gi.same
    replace f2 := f2.same gi.same
    replace f3 := f3.same gi.same
    refine ⟨(by show 1 ≤ sizeLine; decide), fun l4 hl4 => ?_⟩
    obtain ⟨gi, f4⟩ := new1 g.rest d4 hl4
    replace g := g.trans gi
    replace f1 := f1.same gi.same
    replace f2 := f2.same gi.same
    replace f3 := f3.same gi.same
    refine ⟨(by show 4 ≤ sizeLine; decide), fun l5 hl5 => ?_⟩
    obtain ⟨gi, k5⟩ := lst_raw [.ref e1, .ref e2, .ref l3, .ref l4] g.rest hl5
    replace g := g.trans gi
    replace f1 := f1.same gi.same
    replace f2 := f2.same gi.same
    replace f3 := f3.same gi.same
    replace f4 := f4.same gi.same
    refine ⟨_, rfl, p, 4, _, rfl, by decide, g.rest, fun r1 H1 r10 r11 gi => ?_⟩
    replace g := g.trans gi
    obtain ⟨v, hat, hv⟩ := at_int (xs := [V.ref e1, .ref e2, .ref l3, .ref l4]) r10 (by show r1.toNat < 4; omega)
    refine ⟨l5, _, r1, v, rfl, rfl, .inl (.inl (g.rest.1 _ _ k5)), hat, ?_⟩
    obtain ⟨ex, fv, hex⟩ := four_of f1 f2 f3 f4 hv
    refine ⟨_, rfl, _, rfl, _, rfl, _, rfl, _, rfl, p, u, l, t, 9, _, rfl, by decide, g.rest, fun x R' H' c gi fc hc => ?_⟩
    replace g := g.trans gi
    replace fv := fv.same gi.same
    have hex1 : ex.length ≤ 1 := by rcases hex with rfl | rfl | rfl <;> decide
    have hc3 : c.length ≤ 3 := (hc.ok (ns := []) (ms := []) (a := false)).2.2
    refine catL (K := K) g.rest fv fc (by omega) fun y Ri Hi gi fy => ?_
    replace g := g.trans gi
    obtain ⟨ay, vy, rfl, h1, h2⟩ := fy
    refine ⟨ay, vy, rfl, .inl ⟨.inl (.inl (g.rest.1 _ _ h1)), fun z hz => ?_⟩⟩
    obtain ⟨gi, dz⟩ := tup_new (K := K) g.rest hz h2
    refine q _ _ _ _ (g.trans gi) dz (fun ns ms => ?_) (by rw [List.length_append]; omega)
    have h := (hc.ok (ns := ns) (ms := ms) (a := false)).1
    rcases hex with rfl | rfl | rfl
    · exact h
    · exact .plain (by decide) h
    · exact .plain (by decide) h
def spBody (K : PySem.W.Frag) : Sp := fun vs H Q _ => ∃ (p nm n0 n1 : Addr) (room : Int) (t : Bool) (R : Hp) (ns ms : List Str), vs = [.ref p, .ref nm, .int room, .bl t] ∧ Rest p R H ∧ (R nm = some (.lst [.ref n0, .ref n1]) ∧ R n0 = some (.lst (ns.map V.str)) ∧ R n1 = some (.lst (ms.map V.str))) ∧
  (0 < ms.length ∧ ms.length ≤ 100 ∧ ns.length ≤ 100 ∧ (∀ n ∈ ns, Sane n)) ∧ (3 ≤ room ∧ room ≤ 14) ∧ ∀ x R' H' ds, Go p R H R' H' → LD K R' x ds → RowOk ns ms t true false false ds → (sizeR ds : Int) ≤ room → Q x H'
theorem sc_l_body : FnScope ["_law_pool_here", "_law_names", "_law_room", "_law_lets", "_law_items", "_law_under", "_law_locked", "_law_left", "_law_turn", "_law_way", "_law_item", "_law_size"] ["_law_pool_here", "_law_names", "_law_room", "_law_lets"] (defScope s_l_body) := ⟨rfl, rfl, rfl, by decide +kernel, rfl, by decide +kernel, by decide +kernel⟩
theorem ok_l_body {f : Addr} {fd : FuncData} (F : Fun K "_law_body" "_law_body" s_l_body f fd) (T : Blt K mg) {f1 : Addr} {fd1 : FuncData} (F_l_draw : Fun K "_law_draw" "_law_draw" s_l_draw f1 fd1) (b_l_draw : Binds K fd1 ["_law_pool_here", "_law_many"] []) (g_l_draw : mg "_law_draw" = some (.ref f1)) (G_l_draw : FnOk P w K mg base CX0 1 f1 fd1 ["_law_pool_here", "_law_many"] (spDraw K)) {f2 : Addr} {fd2 : FuncData} (F_l_pick : Fun K "_law_pick" "_law_pick" s_l_pick f2 fd2) (b_l_pick : Binds K fd2 ["_law_pool_here", "_law_some"] []) (g_l_pick : mg "_law_pick" = some (.ref f2)) (G_l_pick : FnOk P w K mg base CX0 2 f2 fd2 ["_law_pool_here", "_law_some"] (spPick K)) {f3 : Addr} {fd3 : FuncData} (F_l_way_out : Fun K "_law_way_out" "_law_way_out" s_l_way_out f3 fd3) (b_l_way_out : Binds K fd3 ["_law_pool_here", "_law_under", "_law_locked", "_law_lets"] []) (g_l_way_out : mg "_law_way_out" = some (.ref f3)) (G_l_way_out : FnOk P w K mg base CX0 3 f3 fd3 ["_law_pool_here", "_law_under", "_law_locked", "_law_lets"] (spWayOut K)) {f4 : Addr} {fd4 : FuncData} (F_l_closing : Fun K "_law_closing" "_law_closing" s_l_closing f4 fd4) (b_l_closing : Binds K fd4 ["_law_pool_here", "_law_under", "_law_locked", "_law_lets", "_law_leak"] []) (g_l_closing : mg "_law_closing" = some (.ref f4)) (G_l_closing : FnOk P w K mg base CX0 2 f4 fd4 ["_law_pool_here", "_law_under", "_law_locked", "_law_lets", "_law_leak"] (spClosing K)) : FnOk P w K mg base CX0 4 f fd ["_law_pool_here", "_law_names", "_law_room", "_law_lets"] (spBody K) := by
  refine F.ok sc_l_body (fun vs H Q E h => ?_) (fun cdv A outer s H vs Q E hr h => ?_)
  · obtain ⟨p, nm, n0, n1, room, t, R, ns, ms, rfl, _⟩ := h
    rfl
  · obtain ⟨p, nm, n0, n1, room, t, R, ns, ms, rfl, k, ⟨knm, kn0, kn1⟩, ⟨hms, hms2, hns2, hsane⟩, ⟨hr3, hr14⟩, q⟩ := h
    refine ⟨_, (pss_cons (ps_asg (pe_tup (pa_cons (pe_lst pa_nil) (pa_cons pe_bl (pa_cons pe_bl (pa_cons (pv 2) pa_nil))))) (pg_tup rfl (pgs_cons (pg_name (i := 4) sc_l_body.nd rfl (.inl rfl)) (pgs_cons (pg_name (i := 5) sc_l_body.nd rfl (.inl rfl)) (pgs_cons (pg_name (i := 6) sc_l_body.nd rfl (.inl rfl)) (pgs_cons (pg_name (i := 7) sc_l_body.nd rfl (.inl rfl)) pgs_nil)))))) 
        (pss_cons (ps_for PassesOwn.never rfl (pi_range1 rfl T.m_range (pa_cons (pe_call G_l_draw (hr.mono (by decide)) (by rfl) g_l_draw F_l_draw.kp b_l_draw .nil pass0 (pa_cons (pv 0) (pa_cons pe_int pa_nil))) pa_nil)) (pg_name (i := 8) sc_l_body.nd rfl (.inl rfl)) 
          (pss_cons (ps_set (i := 9) sc_l_body.nd rfl (.inl rfl) (pe_call G_l_draw (hr.mono (by decide)) (by rfl) g_l_draw F_l_draw.kp b_l_draw .nil pass0 (pa_cons (pv 0) (pa_cons pe_int pa_nil)))) 
          (pss_cons (ps_set (i := 10) sc_l_body.nd rfl (.inl rfl) (pe_ix ix_list (pe_lst (pa_cons (pe_tup (pa_cons pe_str pa_nil)) (pa_cons (pe_tup (pa_cons pe_str pa_nil)) pa_nil))) (pe_call G_l_draw (hr.mono (by decide)) (by rfl) g_l_draw F_l_draw.kp b_l_draw .nil pass0 (pa_cons (pv 0) (pa_cons pe_int pa_nil))) (fun _ _ => rfl))) 
          (pss_cons (ps_if (pt_cmpR op_in_seq (pv 9) (pe_lst (pa_cons pe_int (pa_cons pe_int pa_nil))) (by rfl)) 
            (pss_one (ps_set (i := 10) sc_l_body.nd rfl (.inl rfl) (pe_ix ix_list (pe_lst (pa_cons (pe_tup (pa_cons pe_str pa_nil)) (pa_cons (pe_tup (pa_cons pe_str pa_nil)) pa_nil))) (pe_callTy call_int1 (by rfl) T.m_int (by decide +kernel) (pa_cons (pv 5) pa_nil)) (fun _ _ => rfl)))) pss_nil) 
          (pss_cons (ps_if (pt_cmpR op_eq (pv 9) pe_int (nomark _)) 
            (pss_one (ps_set (i := 10) sc_l_body.nd rfl (.inl rfl) (pe_ix ix_list (pe_lst (pa_cons (pe_tup (pa_cons pe_str pa_nil)) (pa_cons (pe_tup (pa_cons pe_str pa_nil)) pa_nil))) (pe_callTy call_int1 (by rfl) T.m_int (by decide +kernel) (pa_cons (pv 6) pa_nil)) (fun _ _ => rfl)))) pss_nil) 
          (pss_cons (ps_if (PW.pt (pw_and (pt_cmpR op_eq (pv 9) pe_int (nomark _)) (pw_and1 (pt_cmpR (op_neD hr.units) (pe_ix ix_list (pv 1) pe_int (fun _ _ => rfl)) (pe_lst pa_nil) (nomark _))))) 
            (pss_one (ps_set (i := 10) sc_l_body.nd rfl (.inl rfl) (pe_tup (pa_cons pe_str (pa_cons (pe_call G_l_pick (hr.mono (by decide)) (by rfl) g_l_pick F_l_pick.kp b_l_pick .nil pass0 (pa_cons (pv 0) (pa_cons (pe_ix ix_list (pv 1) pe_int (fun _ _ => rfl)) pa_nil))) pa_nil))))) pss_nil) 
          (pss_cons (ps_if (pt_cmpR op_gt (pv 9) pe_int (nomark _)) 
            (pss_one (ps_set (i := 10) sc_l_body.nd rfl (.inl rfl) (pe_tup (pa_cons pe_str (pa_cons (pe_call G_l_pick (hr.mono (by decide)) (by rfl) g_l_pick F_l_pick.kp b_l_pick .nil pass0 (pa_cons (pv 0) (pa_cons (pe_ix ix_list (pv 1) pe_int (fun _ _ => rfl)) pa_nil))) (pa_cons (pe_call G_l_way_out hr (by rfl) g_l_way_out F_l_way_out.kp b_l_way_out .nil pass0 (pa_cons (pv 0) (pa_cons (pv 5) (pa_cons (pv 6) (pa_cons (pv 3) pa_nil))))) pa_nil)))))) pss_nil) 
          (pss_cons (ps_set (i := 11) sc_l_body.nd rfl (.inl rfl) (pe_op op_add pe_int (pe_callB call_len_seq (by rfl) T.m_len PySem.boot_len (pa_cons (pe_andT (pe_slice sl_tupA (pv 10) (po_some pe_int) po_none) (pe_one (pe_ix ix_tup (pv 10) pe_int (fun _ _ => rfl)))) pa_nil)))) 
          (pss_one (ps_if (pt_cmpR op_ge (pe_op op_sub (pv 7) (pv 11)) pe_int (nomark _)) 
            (pss_cons (ps_set (i := 7) sc_l_body.nd rfl (.inl rfl) (pe_op op_sub (pv 7) (pv 11))) 
            (pss_cons (ps_expr (pe_bm PySem.F.plainAttrs_list PySem.F.slot_list_append PySem.F.type_list_append mt_append (pv 4) (pa_cons (pv 10) pa_nil))) 
            (pss_cons (ps_set (i := 5) sc_l_body.nd rfl (.inl rfl) (pe_cmpR op_ne (pv 5) (pe_cmpR op_in_seq (pe_ix ix_tup (pv 10) pe_int (fun _ _ => rfl)) (pe_lst (pa_cons pe_str (pa_cons pe_str pa_nil))) (by rfl)) (nomark _))) 
            (pss_one (ps_set (i := 6) sc_l_body.nd rfl (.inl rfl) (pe_cmpR op_ne (pv 6) (pe_cmpR op_in_seq (pe_ix ix_tup (pv 10) pe_int (fun _ _ => rfl)) (pe_lst (pa_cons pe_str (pa_cons pe_str pa_nil))) (by rfl)) (nomark _))))))) pss_nil)))))))))) 
        (pss_one (ps_ret (pe_op op_cat (pv 4) (pe_call G_l_closing (hr.mono (by decide)) (by rfl) g_l_closing F_l_closing.kp b_l_closing .nil pass0 (pa_cons (pv 0) (pa_cons (pv 5) (pa_cons (pv 6) (pa_cons (pv 3) (pa_cons pe_int pa_nil))))))))))), ?_⟩
    refine ⟨Nat.zero_le _, fun li hl0 => ⟨_, rfl, (by show 4 ≤ sizeLine; decide), fun tp htp => ?_⟩⟩
    have hne := k.ne hl0
    have hRl0 : R li = none := k.1.free hl0
    have g : Go p R H R (upd H li (.lst [])) := go_hid k hl0
    have gi := Go.new (o := .tup [.ref li, .bl false, .bl false, .int room]) g.rest htp
    have hli := gi.keep li hne _ (upd_same (H := H) (a := li) (o := .lst []))
    have hRl := gi.fresh li _ (upd_same (H := H) (a := li) (o := .lst [])) hRl0
    replace g := g.trans gi
    replace knm := gi.same _ _ knm
    replace kn0 := gi.same _ _ kn0
    replace kn1 := gi.same _ _ kn1
    refine ⟨tp, _, rfl, .inl (.inl upd_same), rfl, _, _, rfl, _, _, rfl, _, _, rfl, _, [], rfl, rfl, ?_⟩
    refine ⟨_, rfl, p, 7, _, rfl, by decide, g.rest, fun r1 H1 r10 r11 gi => ⟨_, rfl, by omega, by omega, ?_⟩⟩
    replace g := g.trans gi
    replace hli := gi.keep li hne _ hli
    refine for_range (lo := 0) (fun i σ H' => ∃ (R1 : Hp) (u l : Bool) (left : Int) (y8 y9 y10 y11 : Option V) (vs : List V) (ds : List PyData), σ = [some (.ref p), some (.ref nm), some (.int room), some (.bl t), some (.ref li), some (.bl u), some (.bl l), some (.int left), y8, y9, y10, y11] ∧ Go p R H R1 H' ∧ R1 li = none ∧ H' li = some (.lst vs) ∧ DpAll K R1 vs ds ∧
      (R1 nm = some (.lst [.ref n0, .ref n1]) ∧ R1 n0 = some (.lst (ns.map V.str)) ∧ R1 n1 = some (.lst (ms.map V.str))) ∧ Pfx ns ms t true ds u l ∧ (sizeR ds : Int) + left = room ∧ 3 ≤ left ∧ vs.length ≤ i)
      ⟨_, false, false, room, none, none, none, none, [], [], rfl, g, hRl, hli, .nil, ⟨knm, kn0, kn1⟩, Pfx.nil, by show ((0 : Nat) : Int) + room = room; omega, hr3, Nat.le_refl _⟩ ?_ ?_
    · clear g gi hli hRl knm kn0 kn1
      rintro i σ H2 hi ⟨R1, u, l, left, y8, y9, y10, y11, vs, ds, rfl, g, hRl, hli, hds, ⟨knm, kn0, kn1⟩, hpf, hsz, hleft, hvl⟩
      have hi7 : i < 7 := by omega
      refine ⟨_, rfl, p, 9, _, rfl, by decide, g.rest, fun w Hw w0 w1 gi => ?_⟩
      replace g := g.trans gi
      replace hli := gi.keep li hne _ hli
      refine ⟨(by show 1 ≤ sizeLine; decide), fun a1 ha1 => ?_⟩
      obtain ⟨gi, d1⟩ := tup_new (K := K) (vs := [.str "touch"]) (ds := [.str "touch"]) g.rest ha1 (.cons (.str _) .nil)
      replace g := g.trans gi
      replace hRl := gi.fresh li _ hli hRl
      replace hli := gi.keep li hne _ hli
      replace hds := dpAll_same gi.same _ _ hds
      replace knm := gi.same _ _ knm
      replace kn0 := gi.same _ _ kn0
      replace kn1 := gi.same _ _ kn1
      refine ⟨(by show 1 ≤ sizeLine; decide), fun a2 ha2 => ?_⟩
      obtain ⟨gi, d2⟩ := tup_new (K := K) (vs := [.str "use"]) (ds := [.str "use"]) g.rest ha2 (.cons (.str _) .nil)
      replace g := g.trans gi
      replace hRl := gi.fresh li _ hli hRl
      replace hli := gi.keep li hne _ hli
      replace hds := dpAll_same gi.same _ _ hds
      replace knm := gi.same _ _ knm
      replace kn0 := gi.same _ _ kn0
      replace kn1 := gi.same _ _ kn1
      replace d1 := dp_same gi.same _ _ d1
      refine ⟨(by show 2 ≤ sizeLine; decide), fun a3 ha3 => ?_⟩
      obtain ⟨gi, k3⟩ := lst_raw [.ref a1, .ref a2] g.rest ha3
      replace g := g.trans gi
      replace hRl := gi.fresh li _ hli hRl
      replace hli := gi.keep li hne _ hli
      replace hds := dpAll_same gi.same _ _ hds
      replace knm := gi.same _ _ knm
      replace kn0 := gi.same _ _ kn0
      replace kn1 := gi.same _ _ kn1
      replace d1 := dp_same gi.same _ _ d1
      replace d2 := dp_same gi.same _ _ d2
      refine ⟨_, rfl, p, 2, _, rfl, by decide, g.rest, fun r2 Hr2 r20 r21 gi => ?_⟩
      replace g := g.trans gi
      replace hRl := gi.fresh li _ hli hRl
      replace hli := gi.keep li hne _ hli
      replace hds := dpAll_same gi.same _ _ hds
      replace knm := gi.same _ _ knm
      replace kn0 := gi.same _ _ kn0
      replace kn1 := gi.same _ _ kn1
      replace d1 := dp_same gi.same _ _ d1
      replace d2 := dp_same gi.same _ _ d2
      replace k3 := gi.same _ _ k3
      obtain ⟨v, hat, hv⟩ := at_int (xs := [V.ref a1, .ref a2]) r20 (by show r2.toNat < 2; omega)
      refine ⟨a3, _, r2, v, rfl, rfl, .inl (.inl (g.rest.1 _ _ k3)), hat, ?_⟩
      obtain ⟨w0, di, hw0⟩ := one_of d1 d2 hv
      clear d1 d2 k3 hat hv
      refine ⟨_, rfl, (by show 2 ≤ sizeLine; decide), fun b1 hb1 => ?_⟩
      obtain ⟨gi, kb⟩ := lst_raw [.int 2, .int 3] g.rest hb1
      replace g := g.trans gi
      replace hRl := gi.fresh li _ hli hRl
      replace hli := gi.keep li hne _ hli
      replace hds := dpAll_same gi.same _ _ hds
      replace knm := gi.same _ _ knm
      replace kn0 := gi.same _ _ kn0
      replace kn1 := gi.same _ _ kn1
      replace di := dp_same gi.same _ _ di
      clear kb
      refine ⟨b1, _, rfl, .inl (.inl (.inl upd_same)), rfl, rfl, _, rfl, ite2 (fun h1 => ?_) (fun h1 => ?_)⟩
      · have hw23 := in23 h1
        clear di
        refine ⟨(by show 1 ≤ sizeLine; decide), fun c1 hc1 => ?_⟩
        obtain ⟨gi, de1⟩ := tup_new (K := K) (vs := [.str "enter"]) (ds := [.str "enter"]) g.rest hc1 (.cons (.str _) .nil)
        replace g := g.trans gi
        replace hRl := gi.fresh li _ hli hRl
        replace hli := gi.keep li hne _ hli
        replace hds := dpAll_same gi.same _ _ hds
        replace knm := gi.same _ _ knm
        replace kn0 := gi.same _ _ kn0
        replace kn1 := gi.same _ _ kn1
        refine ⟨(by show 1 ≤ sizeLine; decide), fun c2 hc2 => ?_⟩
        obtain ⟨gi, de2⟩ := tup_new (K := K) (vs := [.str "leave"]) (ds := [.str "leave"]) g.rest hc2 (.cons (.str _) .nil)
        replace g := g.trans gi
        replace hRl := gi.fresh li _ hli hRl
        replace hli := gi.keep li hne _ hli
        replace hds := dpAll_same gi.same _ _ hds
        replace knm := gi.same _ _ knm
        replace kn0 := gi.same _ _ kn0
        replace kn1 := gi.same _ _ kn1
        replace de1 := dp_same gi.same _ _ de1
        refine ⟨(by show 2 ≤ sizeLine; decide), fun c3 hc3 => ?_⟩
        obtain ⟨gi, k4⟩ := lst_raw [.ref c1, .ref c2] g.rest hc3
        replace g := g.trans gi
        replace hRl := gi.fresh li _ hli hRl
        replace hli := gi.keep li hne _ hli
        replace hds := dpAll_same gi.same _ _ hds
        replace knm := gi.same _ _ knm
        replace kn0 := gi.same _ _ kn0
        replace kn1 := gi.same _ _ kn1
        replace de1 := dp_same gi.same _ _ de1
        replace de2 := dp_same gi.same _ _ de2
        have di := dp_two (u := u) de1 de2
        refine ⟨_, rfl, .inr ⟨_, rfl, c3, _, _, _, rfl, rfl, .inl (.inl upd_same), two_at u, ?_⟩⟩
        refine ⟨_, rfl, rfl, _, rfl, ite2 (fun h => absurd (eq_dec h) (by omega)) (fun _ => ?_)⟩
        refine ⟨_, rfl, rfl, _, rfl, ite2 (fun h => absurd (eq_dec h) (by omega)) (fun _ => iteF ?_)⟩
        refine ⟨_, rfl, _, _, rfl, rfl, _, rfl, ite2 (fun h => absurd (of_decide_eq_true h) (by omega)) (fun _ => ?_)⟩
        have hi := item_el (ns := ns) (ms := ms) (t := t) (u := u) (l := l)
        have hsize : size1 (T1 (if u = true then "leave" else "enter")) = 1 := by rfl
        refine ⟨_, rfl, _, rfl, slice_lo (K := K) g.rest di fun y1 Ri Hi gi e1 => ?_⟩
        replace g := g.trans gi
        replace hRl := gi.fresh li _ hli hRl
        replace hli := gi.keep li hne _ hli
        replace hds := dpAll_same gi.same _ _ hds
        replace knm := gi.same _ _ knm
        replace kn0 := gi.same _ _ kn0
        replace kn1 := gi.same _ _ kn1
        replace di := dp_same gi.same _ _ di
        rw [cut2_nil (by simp)] at e1
        obtain ⟨ya, rfl, hya⟩ := dp_unit e1
        refine ⟨false, .inr (.inl ⟨[], Same.seqT g.rest.1 hya, rfl⟩), iteF ⟨ya, [], rfl, .inr (Same.seqT g.rest.1 hya), _, _, rfl, rfl, ?_⟩⟩
        have hsz1 : (size1 (T1 (if u = true then "leave" else "enter")) : Int) = 1 + (([] : List V).length : Int) := by rw [hsize]; rfl
        refine ⟨_, rfl, _, rfl, _, _, rfl, rfl, _, _, rfl, rfl, _, rfl, ite2 (fun h9 => ?_) (fun _ => ⟨_, u, l, left, _, _, _, _, vs, ds, rfl, g, hRl, hli, hds, ⟨knm, kn0, kn1⟩, hpf, hsz, hleft, by omega⟩)⟩
        have h9 := of_decide_eq_true h9
        obtain ⟨ia, xi, hia, hi1, hi2⟩ := dp_head di
        refine ⟨_, rfl, _, rfl, _, _, rfl, rfl, ?_⟩
        refine ⟨_, rfl, .inl ⟨rfl, _, .inl (.inl hli)⟩, _, rfl, li, _, _, rfl, rfl, hli, small1000 (by omega), ?_⟩
        obtain ⟨g', hli'⟩ := go_put2 (.lst (vs ++ [if u = true then V.ref c2 else V.ref c1])) g hl0 hRl hne
        clear hli g
        have g := g'
        have hli := hli'
        clear g' hli'
        refine ⟨_, rfl, _, rfl, ia, xi, _, _, hia, rfl, Same.seqT g.rest.1 hi1, hi2, (by show 2 ≤ sizeLine; decide), fun b5 hb5 => ?_⟩
        have gi := go_new2 (.lst [.str "enter", .str "leave"]) g.rest hb5
        replace g := g.trans gi
        replace hRl := gi.fresh li _ hli hRl
        replace hli := gi.keep li hne _ hli
        replace hds := dpAll_same gi.same _ _ hds
        replace knm := gi.same _ _ knm
        replace kn0 := gi.same _ _ kn0
        replace kn1 := gi.same _ _ kn1
        replace di := dp_same gi.same _ _ di
        replace hi1 := Same.seqT gi.same hi1
        refine ⟨b5, _, rfl, .inl (.inl (.inl upd_same)), rfl, rfl, rfl, ?_⟩
        refine ⟨_, rfl, _, rfl, ia, xi, _, _, hia, rfl, Same.seqT g.rest.1 hi1, hi2, (by show 2 ≤ sizeLine; decide), fun b6 hb6 => ?_⟩
        have gi := go_new2 (.lst [.str "lock", .str "unlock"]) g.rest hb6
        replace g := g.trans gi
        replace hRl := gi.fresh li _ hli hRl
        replace hli := gi.keep li hne _ hli
        replace hds := dpAll_same gi.same _ _ hds
        replace knm := gi.same _ _ knm
        replace kn0 := gi.same _ _ kn0
        replace kn1 := gi.same _ _ kn1
        replace di := dp_same gi.same _ _ di
        refine ⟨b6, _, rfl, .inl (.inl (.inl upd_same)), rfl, rfl, rfl, ?_⟩
        refine ⟨_, _, _, _, _, _, _, _, _, ds ++ [(T1 (if u = true then "leave" else "enter"))], rfl, g, hRl, hli, dpAll_app hds (.cons di .nil), ⟨knm, kn0, kn1⟩, hpf.snoc hi, ?_, h9, by rw [List.length_append, List.length_singleton]; omega⟩
        rw [sizeR_app]
        have e1 : sizeR [(T1 (if u = true then "leave" else "enter"))] = size1 (T1 (if u = true then "leave" else "enter")) := by show size1 (T1 (if u = true then "leave" else "enter")) + 0 = _; omega
        rw [e1]
        omega
      have hw23 := not23 h1
      refine ⟨_, rfl, rfl, _, rfl, ite2 (fun h2 => ?_) (fun h2 => ?_)⟩
      · have hw4 := eq_dec h2
        clear di
        refine ⟨(by show 1 ≤ sizeLine; decide), fun c1 hc1 => ?_⟩
        obtain ⟨gi, de1⟩ := tup_new (K := K) (vs := [.str "lock"]) (ds := [.str "lock"]) g.rest hc1 (.cons (.str _) .nil)
        replace g := g.trans gi
        replace hRl := gi.fresh li _ hli hRl
        replace hli := gi.keep li hne _ hli
        replace hds := dpAll_same gi.same _ _ hds
        replace knm := gi.same _ _ knm
        replace kn0 := gi.same _ _ kn0
        replace kn1 := gi.same _ _ kn1
        refine ⟨(by show 1 ≤ sizeLine; decide), fun c2 hc2 => ?_⟩
        obtain ⟨gi, de2⟩ := tup_new (K := K) (vs := [.str "unlock"]) (ds := [.str "unlock"]) g.rest hc2 (.cons (.str _) .nil)
        replace g := g.trans gi
        replace hRl := gi.fresh li _ hli hRl
        replace hli := gi.keep li hne _ hli
        replace hds := dpAll_same gi.same _ _ hds
        replace knm := gi.same _ _ knm
        replace kn0 := gi.same _ _ kn0
        replace kn1 := gi.same _ _ kn1
        replace de1 := dp_same gi.same _ _ de1
        refine ⟨(by show 2 ≤ sizeLine; decide), fun c3 hc3 => ?_⟩
        obtain ⟨gi, k4⟩ := lst_raw [.ref c1, .ref c2] g.rest hc3
        replace g := g.trans gi
        replace hRl := gi.fresh li _ hli hRl
        replace hli := gi.keep li hne _ hli
        replace hds := dpAll_same gi.same _ _ hds
        replace knm := gi.same _ _ knm
        replace kn0 := gi.same _ _ kn0
        replace kn1 := gi.same _ _ kn1
        replace de1 := dp_same gi.same _ _ de1
        replace de2 := dp_same gi.same _ _ de2
        have di := dp_two (u := l) de1 de2
        refine ⟨_, rfl, .inr ⟨_, rfl, c3, _, _, _, rfl, rfl, .inl (.inl upd_same), two_at l, ?_⟩⟩
        refine ⟨_, rfl, rfl, _, rfl, ite2 (fun h => absurd (eq_dec h) (by omega)) (fun _ => iteF ?_)⟩
        refine ⟨_, rfl, _, _, rfl, rfl, _, rfl, ite2 (fun h => absurd (of_decide_eq_true h) (by omega)) (fun _ => ?_)⟩
        have hi := item_lu (ns := ns) (ms := ms) (t := t) (u := u) (l := l)
        have hsize : size1 (T1 (if l = true then "unlock" else "lock")) = 1 := by rfl
        refine ⟨_, rfl, _, rfl, slice_lo (K := K) g.rest di fun y1 Ri Hi gi e1 => ?_⟩
        replace g := g.trans gi
        replace hRl := gi.fresh li _ hli hRl
        replace hli := gi.keep li hne _ hli
        replace hds := dpAll_same gi.same _ _ hds
        replace knm := gi.same _ _ knm
        replace kn0 := gi.same _ _ kn0
        replace kn1 := gi.same _ _ kn1
        replace di := dp_same gi.same _ _ di
        rw [cut2_nil (by simp)] at e1
        obtain ⟨ya, rfl, hya⟩ := dp_unit e1
        refine ⟨false, .inr (.inl ⟨[], Same.seqT g.rest.1 hya, rfl⟩), iteF ⟨ya, [], rfl, .inr (Same.seqT g.rest.1 hya), _, _, rfl, rfl, ?_⟩⟩
        have hsz1 : (size1 (T1 (if l = true then "unlock" else "lock")) : Int) = 1 + (([] : List V).length : Int) := by rw [hsize]; rfl
        refine ⟨_, rfl, _, rfl, _, _, rfl, rfl, _, _, rfl, rfl, _, rfl, ite2 (fun h9 => ?_) (fun _ => ⟨_, u, l, left, _, _, _, _, vs, ds, rfl, g, hRl, hli, hds, ⟨knm, kn0, kn1⟩, hpf, hsz, hleft, by omega⟩)⟩
        have h9 := of_decide_eq_true h9
        obtain ⟨ia, xi, hia, hi1, hi2⟩ := dp_head di
        refine ⟨_, rfl, _, rfl, _, _, rfl, rfl, ?_⟩
        refine ⟨_, rfl, .inl ⟨rfl, _, .inl (.inl hli)⟩, _, rfl, li, _, _, rfl, rfl, hli, small1000 (by omega), ?_⟩
        obtain ⟨g', hli'⟩ := go_put2 (.lst (vs ++ [if l = true then V.ref c2 else V.ref c1])) g hl0 hRl hne
        clear hli g
        have g := g'
        have hli := hli'
        clear g' hli'
        refine ⟨_, rfl, _, rfl, ia, xi, _, _, hia, rfl, Same.seqT g.rest.1 hi1, hi2, (by show 2 ≤ sizeLine; decide), fun b5 hb5 => ?_⟩
        have gi := go_new2 (.lst [.str "enter", .str "leave"]) g.rest hb5
        replace g := g.trans gi
        replace hRl := gi.fresh li _ hli hRl
        replace hli := gi.keep li hne _ hli
        replace hds := dpAll_same gi.same _ _ hds
        replace knm := gi.same _ _ knm
        replace kn0 := gi.same _ _ kn0
        replace kn1 := gi.same _ _ kn1
        replace di := dp_same gi.same _ _ di
        replace hi1 := Same.seqT gi.same hi1
        refine ⟨b5, _, rfl, .inl (.inl (.inl upd_same)), rfl, rfl, rfl, ?_⟩
        refine ⟨_, rfl, _, rfl, ia, xi, _, _, hia, rfl, Same.seqT g.rest.1 hi1, hi2, (by show 2 ≤ sizeLine; decide), fun b6 hb6 => ?_⟩
        have gi := go_new2 (.lst [.str "lock", .str "unlock"]) g.rest hb6
        replace g := g.trans gi
        replace hRl := gi.fresh li _ hli hRl
        replace hli := gi.keep li hne _ hli
        replace hds := dpAll_same gi.same _ _ hds
        replace knm := gi.same _ _ knm
        replace kn0 := gi.same _ _ kn0
        replace kn1 := gi.same _ _ kn1
        replace di := dp_same gi.same _ _ di
        refine ⟨b6, _, rfl, .inl (.inl (.inl upd_same)), rfl, rfl, rfl, ?_⟩
        refine ⟨_, _, _, _, _, _, _, _, _, ds ++ [(T1 (if l = true then "unlock" else "lock"))], rfl, g, hRl, hli, dpAll_app hds (.cons di .nil), ⟨knm, kn0, kn1⟩, hpf.snoc hi, ?_, h9, by rw [List.length_append, List.length_singleton]; omega⟩
        rw [sizeR_app]
        have e1 : sizeR [(T1 (if l = true then "unlock" else "lock"))] = size1 (T1 (if l = true then "unlock" else "lock")) := by show size1 (T1 (if l = true then "unlock" else "lock")) + 0 = _; omega
        rw [e1]
        omega
      have hw4 := ne_dec h2
      refine ⟨_, rfl, rfl, _, rfl, ite2 (fun h3 => ⟨_, rfl, nm, _, _, _, rfl, rfl, .inl (.inl (g.rest.1 _ _ knm)), rfl, Nat.zero_le _, fun b2 hb2 => ?_⟩) (fun h3 => iteF ?_)⟩
      · have hw5 := eq_dec h3
        have gi := go_new2 (.lst []) g.rest hb2
        replace g := g.trans gi
        replace hRl := gi.fresh li _ hli hRl
        replace hli := gi.keep li hne _ hli
        replace hds := dpAll_same gi.same _ _ hds
        replace knm := gi.same _ _ knm
        replace kn0 := gi.same _ _ kn0
        replace kn1 := gi.same _ _ kn1
        replace di := dp_same gi.same _ _ di
        refine ⟨_, _, .lst (.inl (.inl (g.rest.1 _ _ kn0))) (dp_strs ns), .lst (xs := []) (.inl (.inl upd_same)) .nil, strs_lay ns hsane, rfl, _, rfl, ite2 (fun h4 => ?_) (fun h4 => ?_)⟩
        · rw [strs_eqv] at h4
          clear di
          have hpos : 0 < (ns.map V.str).length := by cases ns with
            | nil => cases h4
            | cons a b => exact Nat.succ_pos _
          refine ⟨_, rfl, _, rfl, nm, _, _, _, rfl, rfl, .inl (.inl (g.rest.1 _ _ knm)), rfl, p, n0, _, _, rfl, .inl (.inl kn0), hpos, g.rest, fun x Hx hx gi => ?_⟩
          replace g := g.trans gi
          replace hRl := gi.fresh li _ hli hRl
          replace hli := gi.keep li hne _ hli
          replace hds := dpAll_same gi.same _ _ hds
          replace knm := gi.same _ _ knm
          replace kn0 := gi.same _ _ kn0
          replace kn1 := gi.same _ _ kn1
          obtain ⟨n, hn, rfl⟩ := List.mem_map.mp hx
          refine ⟨(by show 2 ≤ sizeLine; decide), fun c1 hc1 => ?_⟩
          obtain ⟨gi, di⟩ := tup_new (K := K) (vs := [.str "start", .str n]) (ds := [.str "start", .str n]) g.rest hc1 (.cons (.str _) (.cons (.str _) .nil))
          replace g := g.trans gi
          replace hRl := gi.fresh li _ hli hRl
          replace hli := gi.keep li hne _ hli
          replace hds := dpAll_same gi.same _ _ hds
          replace knm := gi.same _ _ knm
          replace kn0 := gi.same _ _ kn0
          replace kn1 := gi.same _ _ kn1
          refine ⟨_, rfl, _, _, rfl, rfl, _, rfl, ite2 (fun h => absurd (of_decide_eq_true h) (by omega)) (fun _ => ?_)⟩
          have hi := item_start (ns := ns) (ms := ms) (t := t) (u := u) (l := l) hn
          have hsize : size1 (TS n) = 1 := by rfl
          refine ⟨_, rfl, _, rfl, slice_lo (K := K) g.rest di fun y1 Ri Hi gi e1 => ?_⟩
          replace g := g.trans gi
          replace hRl := gi.fresh li _ hli hRl
          replace hli := gi.keep li hne _ hli
          replace hds := dpAll_same gi.same _ _ hds
          replace knm := gi.same _ _ knm
          replace kn0 := gi.same _ _ kn0
          replace kn1 := gi.same _ _ kn1
          replace di := dp_same gi.same _ _ di
          rw [cut2_nil (by simp)] at e1
          obtain ⟨ya, rfl, hya⟩ := dp_unit e1
          refine ⟨false, .inr (.inl ⟨[], Same.seqT g.rest.1 hya, rfl⟩), iteF ⟨ya, [], rfl, .inr (Same.seqT g.rest.1 hya), _, _, rfl, rfl, ?_⟩⟩
          have hsz1 : (size1 (TS n) : Int) = 1 + (([] : List V).length : Int) := by rw [hsize]; rfl
          refine ⟨_, rfl, _, rfl, _, _, rfl, rfl, _, _, rfl, rfl, _, rfl, ite2 (fun h9 => ?_) (fun _ => ⟨_, u, l, left, _, _, _, _, vs, ds, rfl, g, hRl, hli, hds, ⟨knm, kn0, kn1⟩, hpf, hsz, hleft, by omega⟩)⟩
          have h9 := of_decide_eq_true h9
          obtain ⟨ia, xi, hia, hi1, hi2⟩ := dp_head di
          refine ⟨_, rfl, _, rfl, _, _, rfl, rfl, ?_⟩
          refine ⟨_, rfl, .inl ⟨rfl, _, .inl (.inl hli)⟩, _, rfl, li, _, _, rfl, rfl, hli, small1000 (by omega), ?_⟩
          obtain ⟨g', hli'⟩ := go_put2 (.lst (vs ++ [V.ref c1])) g hl0 hRl hne
          clear hli g
          have g := g'
          have hli := hli'
          clear g' hli'
          refine ⟨_, rfl, _, rfl, ia, xi, _, _, hia, rfl, Same.seqT g.rest.1 hi1, hi2, (by show 2 ≤ sizeLine; decide), fun b5 hb5 => ?_⟩
          have gi := go_new2 (.lst [.str "enter", .str "leave"]) g.rest hb5
          replace g := g.trans gi
          replace hRl := gi.fresh li _ hli hRl
          replace hli := gi.keep li hne _ hli
          replace hds := dpAll_same gi.same _ _ hds
          replace knm := gi.same _ _ knm
          replace kn0 := gi.same _ _ kn0
          replace kn1 := gi.same _ _ kn1
          replace di := dp_same gi.same _ _ di
          replace hi1 := Same.seqT gi.same hi1
          refine ⟨b5, _, rfl, .inl (.inl (.inl upd_same)), rfl, rfl, rfl, ?_⟩
          refine ⟨_, rfl, _, rfl, ia, xi, _, _, hia, rfl, Same.seqT g.rest.1 hi1, hi2, (by show 2 ≤ sizeLine; decide), fun b6 hb6 => ?_⟩
          have gi := go_new2 (.lst [.str "lock", .str "unlock"]) g.rest hb6
          replace g := g.trans gi
          replace hRl := gi.fresh li _ hli hRl
          replace hli := gi.keep li hne _ hli
          replace hds := dpAll_same gi.same _ _ hds
          replace knm := gi.same _ _ knm
          replace kn0 := gi.same _ _ kn0
          replace kn1 := gi.same _ _ kn1
          replace di := dp_same gi.same _ _ di
          refine ⟨b6, _, rfl, .inl (.inl (.inl upd_same)), rfl, rfl, rfl, ?_⟩
          refine ⟨_, _, _, _, _, _, _, _, _, ds ++ [(TS n)], rfl, g, hRl, hli, dpAll_app hds (.cons di .nil), ⟨knm, kn0, kn1⟩, hpf.snoc hi, ?_, h9, by rw [List.length_append, List.length_singleton]; omega⟩
          rw [sizeR_app]
          have e1 : sizeR [(TS n)] = size1 (TS n) := by show size1 (TS n) + 0 = _; omega
          rw [e1]
          omega
        · refine ⟨_, rfl, _, _, rfl, rfl, _, rfl, ite2 (fun h => absurd (of_decide_eq_true h) (by omega)) (fun _ => ?_)⟩
          have hi := item_plain (ns := ns) (ms := ms) (t := t) (u := u) (l := l) hw0
          have hsize : size1 (T1 w0) = 1 := by rfl
          refine ⟨_, rfl, _, rfl, slice_lo (K := K) g.rest di fun y1 Ri Hi gi e1 => ?_⟩
          replace g := g.trans gi
          replace hRl := gi.fresh li _ hli hRl
          replace hli := gi.keep li hne _ hli
          replace hds := dpAll_same gi.same _ _ hds
          replace knm := gi.same _ _ knm
          replace kn0 := gi.same _ _ kn0
          replace kn1 := gi.same _ _ kn1
          replace di := dp_same gi.same _ _ di
          rw [cut2_nil (by simp)] at e1
          obtain ⟨ya, rfl, hya⟩ := dp_unit e1
          refine ⟨false, .inr (.inl ⟨[], Same.seqT g.rest.1 hya, rfl⟩), iteF ⟨ya, [], rfl, .inr (Same.seqT g.rest.1 hya), _, _, rfl, rfl, ?_⟩⟩
          have hsz1 : (size1 (T1 w0) : Int) = 1 + (([] : List V).length : Int) := by rw [hsize]; rfl
          refine ⟨_, rfl, _, rfl, _, _, rfl, rfl, _, _, rfl, rfl, _, rfl, ite2 (fun h9 => ?_) (fun _ => ⟨_, u, l, left, _, _, _, _, vs, ds, rfl, g, hRl, hli, hds, ⟨knm, kn0, kn1⟩, hpf, hsz, hleft, by omega⟩)⟩
          have h9 := of_decide_eq_true h9
          obtain ⟨ia, xi, hia, hi1, hi2⟩ := dp_head di
          refine ⟨_, rfl, _, rfl, _, _, rfl, rfl, ?_⟩
          refine ⟨_, rfl, .inl ⟨rfl, _, .inl (.inl hli)⟩, _, rfl, li, _, _, rfl, rfl, hli, small1000 (by omega), ?_⟩
          obtain ⟨g', hli'⟩ := go_put2 (.lst (vs ++ [v])) g hl0 hRl hne
          clear hli g
          have g := g'
          have hli := hli'
          clear g' hli'
          refine ⟨_, rfl, _, rfl, ia, xi, _, _, hia, rfl, Same.seqT g.rest.1 hi1, hi2, (by show 2 ≤ sizeLine; decide), fun b5 hb5 => ?_⟩
          have gi := go_new2 (.lst [.str "enter", .str "leave"]) g.rest hb5
          replace g := g.trans gi
          replace hRl := gi.fresh li _ hli hRl
          replace hli := gi.keep li hne _ hli
          replace hds := dpAll_same gi.same _ _ hds
          replace knm := gi.same _ _ knm
          replace kn0 := gi.same _ _ kn0
          replace kn1 := gi.same _ _ kn1
          replace di := dp_same gi.same _ _ di
          replace hi1 := Same.seqT gi.same hi1
          refine ⟨b5, _, rfl, .inl (.inl (.inl upd_same)), rfl, rfl, rfl, ?_⟩
          refine ⟨_, rfl, _, rfl, ia, xi, _, _, hia, rfl, Same.seqT g.rest.1 hi1, hi2, (by show 2 ≤ sizeLine; decide), fun b6 hb6 => ?_⟩
          have gi := go_new2 (.lst [.str "lock", .str "unlock"]) g.rest hb6
          replace g := g.trans gi
          replace hRl := gi.fresh li _ hli hRl
          replace hli := gi.keep li hne _ hli
          replace hds := dpAll_same gi.same _ _ hds
          replace knm := gi.same _ _ knm
          replace kn0 := gi.same _ _ kn0
          replace kn1 := gi.same _ _ kn1
          replace di := dp_same gi.same _ _ di
          refine ⟨b6, _, rfl, .inl (.inl (.inl upd_same)), rfl, rfl, rfl, ?_⟩
          refine ⟨_, _, _, _, _, _, _, _, _, ds ++ [(T1 w0)], rfl, g, hRl, hli, dpAll_app hds (.cons di .nil), ⟨knm, kn0, kn1⟩, hpf.snoc hi, ?_, h9, by rw [List.length_append, List.length_singleton]; omega⟩
          rw [sizeR_app]
          have e1 : sizeR [(T1 w0)] = size1 (T1 w0) := by show size1 (T1 w0) + 0 = _; omega
          rw [e1]
          omega
      refine ⟨_, rfl, _, _, rfl, rfl, _, rfl, ite2 (fun h5 => ?_) (fun _ => ?_)⟩
      · clear di
        refine ⟨_, rfl, _, rfl, nm, _, _, _, rfl, rfl, .inl (.inl (g.rest.1 _ _ knm)), rfl, p, n1, _, _, rfl, .inl (.inl kn1), by rw [List.length_map]; exact hms, g.rest, fun x Hx hx gi => ?_⟩
        replace g := g.trans gi
        replace hRl := gi.fresh li _ hli hRl
        replace hli := gi.keep li hne _ hli
        replace hds := dpAll_same gi.same _ _ hds
        replace knm := gi.same _ _ knm
        replace kn0 := gi.same _ _ kn0
        replace kn1 := gi.same _ _ kn1
        obtain ⟨m, hm, rfl⟩ := List.mem_map.mp hx
        refine ⟨_, rfl, _, rfl, _, rfl, _, rfl, p, u, l, t, _, rfl, g.rest, fun xo Ro Ho o gi dx ho h4 => ?_⟩
        replace g := g.trans gi
        replace hRl := gi.fresh li _ hli hRl
        replace hli := gi.keep li hne _ hli
        replace hds := dpAll_same gi.same _ _ hds
        replace knm := gi.same _ _ knm
        replace kn0 := gi.same _ _ kn0
        replace kn1 := gi.same _ _ kn1
        refine ⟨(by show 3 ≤ sizeLine; decide), fun c1 hc1 => ?_⟩
        obtain ⟨gi, di⟩ := tup_new (K := K) (vs := [.str "ask", .str m, xo]) (ds := [.str "ask", .str m, .tuple o]) g.rest hc1 (.cons (.str _) (.cons (.str _) (.cons dx .nil)))
        replace g := g.trans gi
        replace hRl := gi.fresh li _ hli hRl
        replace hli := gi.keep li hne _ hli
        replace hds := dpAll_same gi.same _ _ hds
        replace knm := gi.same _ _ knm
        replace kn0 := gi.same _ _ kn0
        replace kn1 := gi.same _ _ kn1
        have hi := item_ask (ns := ns) (t := t) hm (ho ns ms) h4
        have hsize : size1 (TA3 m o) = 1 + o.length := by rfl
        refine ⟨_, rfl, _, rfl, slice_lo (K := K) g.rest di fun y1 Ri Hi gi e1 => ?_⟩
        replace g := g.trans gi
        replace hRl := gi.fresh li _ hli hRl
        replace hli := gi.keep li hne _ hli
        replace hds := dpAll_same gi.same _ _ hds
        replace knm := gi.same _ _ knm
        replace kn0 := gi.same _ _ kn0
        replace kn1 := gi.same _ _ kn1
        replace di := dp_same gi.same _ _ di
        obtain ⟨ya, y2, rfl, hya⟩ := dp_single (d := .tuple o) e1
        obtain ⟨ja, oa, xs2, ys2, hja, h21, h22, h23, h24⟩ := dp_third di
        refine ⟨true, .inr (.inl ⟨_, Same.seqT g.rest.1 hya, rfl⟩), iteT ⟨_, rfl, ja, xs2, _, _, hja, rfl, Same.seqT g.rest.1 h21, h22, oa, ys2, rfl, .inr (Same.seqT g.rest.1 h23), _, _, rfl, rfl, ?_⟩⟩
        have hsz1 : (size1 (TA3 m o) : Int) = 1 + (ys2.length : Int) := by rw [hsize, h24]; omega
        refine ⟨_, rfl, _, rfl, _, _, rfl, rfl, _, _, rfl, rfl, _, rfl, ite2 (fun h9 => ?_) (fun _ => ⟨_, u, l, left, _, _, _, _, vs, ds, rfl, g, hRl, hli, hds, ⟨knm, kn0, kn1⟩, hpf, hsz, hleft, by omega⟩)⟩
        have h9 := of_decide_eq_true h9
        obtain ⟨ia, xi, hia, hi1, hi2⟩ := dp_head di
        refine ⟨_, rfl, _, rfl, _, _, rfl, rfl, ?_⟩
        refine ⟨_, rfl, .inl ⟨rfl, _, .inl (.inl hli)⟩, _, rfl, li, _, _, rfl, rfl, hli, small1000 (by omega), ?_⟩
        obtain ⟨g', hli'⟩ := go_put2 (.lst (vs ++ [V.ref c1])) g hl0 hRl hne
        clear hli g
        have g := g'
        have hli := hli'
        clear g' hli'
        refine ⟨_, rfl, _, rfl, ia, xi, _, _, hia, rfl, Same.seqT g.rest.1 hi1, hi2, (by show 2 ≤ sizeLine; decide), fun b5 hb5 => ?_⟩
        have gi := go_new2 (.lst [.str "enter", .str "leave"]) g.rest hb5
        replace g := g.trans gi
        replace hRl := gi.fresh li _ hli hRl
        replace hli := gi.keep li hne _ hli
        replace hds := dpAll_same gi.same _ _ hds
        replace knm := gi.same _ _ knm
        replace kn0 := gi.same _ _ kn0
        replace kn1 := gi.same _ _ kn1
        replace di := dp_same gi.same _ _ di
        replace hi1 := Same.seqT gi.same hi1
        refine ⟨b5, _, rfl, .inl (.inl (.inl upd_same)), rfl, rfl, rfl, ?_⟩
        refine ⟨_, rfl, _, rfl, ia, xi, _, _, hia, rfl, Same.seqT g.rest.1 hi1, hi2, (by show 2 ≤ sizeLine; decide), fun b6 hb6 => ?_⟩
        have gi := go_new2 (.lst [.str "lock", .str "unlock"]) g.rest hb6
        replace g := g.trans gi
        replace hRl := gi.fresh li _ hli hRl
        replace hli := gi.keep li hne _ hli
        replace hds := dpAll_same gi.same _ _ hds
        replace knm := gi.same _ _ knm
        replace kn0 := gi.same _ _ kn0
        replace kn1 := gi.same _ _ kn1
        replace di := dp_same gi.same _ _ di
        refine ⟨b6, _, rfl, .inl (.inl (.inl upd_same)), rfl, rfl, rfl, ?_⟩
        refine ⟨_, _, _, _, _, _, _, _, _, ds ++ [(TA3 m o)], rfl, g, hRl, hli, dpAll_app hds (.cons di .nil), ⟨knm, kn0, kn1⟩, hpf.snoc hi, ?_, h9, by rw [List.length_append, List.length_singleton]; omega⟩
        rw [sizeR_app]
        have e1 : sizeR [(TA3 m o)] = size1 (TA3 m o) := by show size1 (TA3 m o) + 0 = _; omega
        rw [e1]
        omega
      · have hi := item_plain (ns := ns) (ms := ms) (t := t) (u := u) (l := l) hw0
        have hsize : size1 (T1 w0) = 1 := by rfl
        refine ⟨_, rfl, _, rfl, slice_lo (K := K) g.rest di fun y1 Ri Hi gi e1 => ?_⟩
        replace g := g.trans gi
        replace hRl := gi.fresh li _ hli hRl
        replace hli := gi.keep li hne _ hli
        replace hds := dpAll_same gi.same _ _ hds
        replace knm := gi.same _ _ knm
        replace kn0 := gi.same _ _ kn0
        replace kn1 := gi.same _ _ kn1
        replace di := dp_same gi.same _ _ di
        rw [cut2_nil (by simp)] at e1
        obtain ⟨ya, rfl, hya⟩ := dp_unit e1
        refine ⟨false, .inr (.inl ⟨[], Same.seqT g.rest.1 hya, rfl⟩), iteF ⟨ya, [], rfl, .inr (Same.seqT g.rest.1 hya), _, _, rfl, rfl, ?_⟩⟩
        have hsz1 : (size1 (T1 w0) : Int) = 1 + (([] : List V).length : Int) := by rw [hsize]; rfl
        refine ⟨_, rfl, _, rfl, _, _, rfl, rfl, _, _, rfl, rfl, _, rfl, ite2 (fun h9 => ?_) (fun _ => ⟨_, u, l, left, _, _, _, _, vs, ds, rfl, g, hRl, hli, hds, ⟨knm, kn0, kn1⟩, hpf, hsz, hleft, by omega⟩)⟩
        have h9 := of_decide_eq_true h9
        obtain ⟨ia, xi, hia, hi1, hi2⟩ := dp_head di
        refine ⟨_, rfl, _, rfl, _, _, rfl, rfl, ?_⟩
        refine ⟨_, rfl, .inl ⟨rfl, _, .inl (.inl hli)⟩, _, rfl, li, _, _, rfl, rfl, hli, small1000 (by omega), ?_⟩
        obtain ⟨g', hli'⟩ := go_put2 (.lst (vs ++ [v])) g hl0 hRl hne
        clear hli g
        have g := g'
        have hli := hli'
        clear g' hli'
        refine ⟨_, rfl, _, rfl, ia, xi, _, _, hia, rfl, Same.seqT g.rest.1 hi1, hi2, (by show 2 ≤ sizeLine; decide), fun b5 hb5 => ?_⟩
        have gi := go_new2 (.lst [.str "enter", .str "leave"]) g.rest hb5
        replace g := g.trans gi
        replace hRl := gi.fresh li _ hli hRl
        replace hli := gi.keep li hne _ hli
        replace hds := dpAll_same gi.same _ _ hds
        replace knm := gi.same _ _ knm
        replace kn0 := gi.same _ _ kn0
        replace kn1 := gi.same _ _ kn1
        replace di := dp_same gi.same _ _ di
        replace hi1 := Same.seqT gi.same hi1
        refine ⟨b5, _, rfl, .inl (.inl (.inl upd_same)), rfl, rfl, rfl, ?_⟩
        refine ⟨_, rfl, _, rfl, ia, xi, _, _, hia, rfl, Same.seqT g.rest.1 hi1, hi2, (by show 2 ≤ sizeLine; decide), fun b6 hb6 => ?_⟩
        have gi := go_new2 (.lst [.str "lock", .str "unlock"]) g.rest hb6
        replace g := g.trans gi
        replace hRl := gi.fresh li _ hli hRl
        replace hli := gi.keep li hne _ hli
        replace hds := dpAll_same gi.same _ _ hds
        replace knm := gi.same _ _ knm
        replace kn0 := gi.same _ _ kn0
        replace kn1 := gi.same _ _ kn1
        replace di := dp_same gi.same _ _ di
        refine ⟨b6, _, rfl, .inl (.inl (.inl upd_same)), rfl, rfl, rfl, ?_⟩
        refine ⟨_, _, _, _, _, _, _, _, _, ds ++ [(T1 w0)], rfl, g, hRl, hli, dpAll_app hds (.cons di .nil), ⟨knm, kn0, kn1⟩, hpf.snoc hi, ?_, h9, by rw [List.length_append, List.length_singleton]; omega⟩
        rw [sizeR_app]
        have e1 : sizeR [(T1 w0)] = size1 (T1 w0) := by show size1 (T1 w0) + 0 = _; omega
        rw [e1]
        omega
    · rintro σ H2 ⟨R1, u, l, left, y8, y9, y10, y11, vs, ds, rfl, g, hRl, hli, hds, ⟨knm, kn0, kn1⟩, hpf, hsz, hleft, hvl⟩
      have g2 := go_show g hl0 hRl hne hli
      have es : Same R1 (upd R1 li (.lst vs)) := same_upd hRl
      have fi : LD K (upd R1 li (.lst vs)) (.ref li) ds := ⟨li, vs, rfl, upd_same, dpAll_same es _ _ hds⟩
      refine ⟨_, rfl, _, rfl, _, rfl, _, rfl, _, rfl, p, u, l, t, 9, _, rfl, by decide, g2.rest, fun x R' H' c gi fc hc => ?_⟩
      obtain ⟨hc1, hc2, hc3⟩ := hc.ok (ns := ns) (ms := ms) (a := true)
      have hdl := dpAll_len hds
      refine catL (K := K) (g2.trans gi).rest (fi.same gi.same) fc (by omega) fun y Ri Hi gj fy => ?_
      refine q _ _ _ _ ((g2.trans gi).trans gj) fy (hpf _ hc1) ?_
      rw [sizeR_app]
      omega
end
end K05

namespace K05
open PySem PySem.Spec PyProof.Rows L2 TL GG
section
variable {P : Program} {w : World} {K : PySem.W.Frag} {mg : Str → Option Value} {base : Heap}
def spHand (K : PySem.W.Frag) : Sp := fun vs H Q _ => ∃ (p nm n0 n1 : Addr) (R : Hp) (ns ms : List Str), vs = [.ref p, .ref nm] ∧ Rest p R H ∧ (R nm = some (.lst [.ref n0, .ref n1]) ∧ R n0 = some (.lst (ns.map V.str)) ∧ R n1 = some (.lst (ms.map V.str))) ∧
  (0 < ms.length ∧ ms.length ≤ 100 ∧ ns.length ≤ 100 ∧ (∀ n ∈ ns, Sane n)) ∧ ∀ x R' H' ds, Go p R H R' H' → Dp K R' x (.tuple ds) → HandOk ns ms ds → Q x H'
theorem sc_l_hand : FnScope ["_law_pool_here", "_law_names", "_law_some", "_law_opening_here", "_law_word"] ["_law_pool_here", "_law_names"] (defScope s_l_hand) := ⟨rfl, rfl, rfl, by decide +kernel, rfl, by decide +kernel, by decide +kernel⟩
theorem ok_l_hand {f : Addr} {fd : FuncData} (F : Fun K "_law_hand" "_law_hand" s_l_hand f fd) (T : Blt K mg) {f1 : Addr} {fd1 : FuncData} (F_l_pick : Fun K "_law_pick" "_law_pick" s_l_pick f1 fd1) (b_l_pick : Binds K fd1 ["_law_pool_here", "_law_some"] []) (g_l_pick : mg "_law_pick" = some (.ref f1)) (G_l_pick : FnOk P w K mg base CX0 2 f1 fd1 ["_law_pool_here", "_law_some"] (spPick K)) {f2 : Addr} {fd2 : FuncData} (F_l_body : Fun K "_law_body" "_law_body" s_l_body f2 fd2) (b_l_body : Binds K fd2 ["_law_pool_here", "_law_names", "_law_room", "_law_lets"] []) (g_l_body : mg "_law_body" = some (.ref f2)) (G_l_body : FnOk P w K mg base CX0 4 f2 fd2 ["_law_pool_here", "_law_names", "_law_room", "_law_lets"] (spBody K)) : FnOk P w K mg base CX0 5 f fd ["_law_pool_here", "_law_names"] (spHand K) := by
  refine F.ok sc_l_hand (fun vs H Q E h => ?_) (fun cdv A outer s H vs Q E hr h => ?_)
  · obtain ⟨p, nm, n0, n1, R, ns, ms, rfl, _⟩ := h
    rfl
  · obtain ⟨p, nm, n0, n1, R, ns, ms, rfl, k, ⟨knm, kn0, kn1⟩, hcs, q⟩ := h
    refine ⟨_, (pss_cons (ps_set (i := 2) sc_l_hand.nd rfl (.inl rfl) (pe_lst (pa_cons (pe_lst (pa_cons pe_str (pa_cons pe_str pa_nil))) (pa_cons (pe_lst (pa_cons pe_str (pa_cons pe_str pa_nil))) (pa_cons (pe_lst (pa_cons pe_str (pa_cons pe_str (pa_cons pe_str (pa_cons pe_str pa_nil))))) (pa_cons (pe_lst (pa_cons pe_str (pa_cons pe_str (pa_cons pe_str (pa_cons pe_str pa_nil))))) pa_nil)))))) 
        (pss_cons (ps_set (i := 2) sc_l_hand.nd rfl (.inl rfl) (pe_op op_cat (pv 2) (pe_lst (pa_cons (pe_lst (pa_cons pe_str (pa_cons pe_str (pa_cons pe_str (pa_cons pe_str pa_nil))))) (pa_cons (pe_lst (pa_cons pe_str (pa_cons pe_str (pa_cons pe_str (pa_cons pe_str pa_nil))))) pa_nil))))) 
        (pss_cons (ps_setLc (i := 3) (own := [("_law_word", 4)]) (g := gName 4) rfl sc_l_hand.nd rfl rfl (sw_true rfl rfl rfl (by decide +kernel)) (pi_list (pe_call G_l_pick (hr.mono (by decide)) (by rfl) g_l_pick F_l_pick.kp b_l_pick .nil pass0 (pa_cons (pv 0) (pa_cons (pv 2) pa_nil)))) (blkOk_by (N := ["_law_pool_here", "_law_names", "_law_some", "_law_opening_here", "_law_word"]) (sc := defScope s_l_hand) (by decide +kernel)) (fun _ _ _ _ _ => pg_name (i := 4) sc_l_hand.nd rfl (.inl rfl)) (fun _ _ _ _ _ => pts_nil) (fun _ _ _ _ _ => (pe_tup (pa_cons (pv 4) pa_nil)))) 
        (pss_one (ps_ret (pe_callTy call_tuple_of (by rfl) T.m_tuple (by decide +kernel) (pa_cons (pe_op op_cat (pv 3) (pe_call G_l_body hr (by rfl) g_l_body F_l_body.kp b_l_body .nil pass0 (pa_cons (pv 0) (pa_cons (pv 1) (pa_cons (pe_op op_sub pe_int (pe_callB call_len_seq (by rfl) T.m_len PySem.boot_len (pa_cons (pv 3) pa_nil))) (pa_cons pe_bl pa_nil)))))) pa_nil))))))), ?_⟩
    have g := k.go
    refine ⟨(by show 2 ≤ sizeLine; decide), fun l1 hl1 => ?_⟩
    obtain ⟨gi, k1⟩ := lst_raw [.str "look", .str "hold"] g.rest hl1
    replace g := g.trans gi
    refine ⟨(by show 2 ≤ sizeLine; decide), fun l2 hl2 => ?_⟩
    obtain ⟨gi, k2⟩ := lst_raw [.str "look", .str "try"] g.rest hl2
    replace g := g.trans gi
    replace k1 := gi.same _ _ k1
    refine ⟨(by show 4 ≤ sizeLine; decide), fun l3 hl3 => ?_⟩
    obtain ⟨gi, k3⟩ := lst_raw [.str "lock", .str "look", .str "hold", .str "unlock"] g.rest hl3
    replace g := g.trans gi
    replace k1 := gi.same _ _ k1
    replace k2 := gi.same _ _ k2
    refine ⟨(by show 4 ≤ sizeLine; decide), fun l4 hl4 => ?_⟩
    obtain ⟨gi, k4⟩ := lst_raw [.str "lock", .str "look", .str "try", .str "unlock"] g.rest hl4
    replace g := g.trans gi
    replace k1 := gi.same _ _ k1
    replace k2 := gi.same _ _ k2
    replace k3 := gi.same _ _ k3
    refine ⟨(by show 4 ≤ sizeLine; decide), fun a4 ha4 => ?_⟩
    obtain ⟨gi, ka⟩ := lst_raw [.ref l1, .ref l2, .ref l3, .ref l4] g.rest ha4
    replace g := g.trans gi
    replace k1 := gi.same _ _ k1
    replace k2 := gi.same _ _ k2
    replace k3 := gi.same _ _ k3
    replace k4 := gi.same _ _ k4
    refine ⟨_, rfl, ?_⟩
    refine ⟨(by show 4 ≤ sizeLine; decide), fun l5 hl5 => ?_⟩
    obtain ⟨gi, k5⟩ := lst_raw [.str "lock", .str "look", .str "unlock", .str "hold"] g.rest hl5
    replace g := g.trans gi
    replace k1 := gi.same _ _ k1
    replace k2 := gi.same _ _ k2
    replace k3 := gi.same _ _ k3
    replace k4 := gi.same _ _ k4
    replace ka := gi.same _ _ ka
    refine ⟨(by show 4 ≤ sizeLine; decide), fun l6 hl6 => ?_⟩
    obtain ⟨gi, k6⟩ := lst_raw [.str "lock", .str "look", .str "unlock", .str "try"] g.rest hl6
    replace g := g.trans gi
    replace k1 := gi.same _ _ k1
    replace k2 := gi.same _ _ k2
    replace k3 := gi.same _ _ k3
    replace k4 := gi.same _ _ k4
    replace ka := gi.same _ _ ka
    replace k5 := gi.same _ _ k5
    refine ⟨(by show 2 ≤ sizeLine; decide), fun b2 hb2 => ?_⟩
    obtain ⟨gi, kb⟩ := lst_raw [.ref l5, .ref l6] g.rest hb2
    replace g := g.trans gi
    replace k1 := gi.same _ _ k1
    replace k2 := gi.same _ _ k2
    replace k3 := gi.same _ _ k3
    replace k4 := gi.same _ _ k4
    replace ka := gi.same _ _ ka
    replace k5 := gi.same _ _ k5
    replace k6 := gi.same _ _ k6
    refine ⟨a4, b2, _, _, rfl, rfl, g.rest.1 _ _ ka, g.rest.1 _ _ kb, (by show 6 ≤ sizeLine; decide), fun c6 hc6 => ?_⟩
    obtain ⟨gi, kc⟩ := lst_raw ([V.ref l1, .ref l2, .ref l3, .ref l4] ++ [V.ref l5, .ref l6]) g.rest hc6
    replace g := g.trans gi
    replace k1 := gi.same _ _ k1
    replace k2 := gi.same _ _ k2
    replace k3 := gi.same _ _ k3
    replace k4 := gi.same _ _ k4
    replace ka := gi.same _ _ ka
    replace k5 := gi.same _ _ k5
    replace k6 := gi.same _ _ k6
    replace kb := gi.same _ _ kb
    refine ⟨_, rfl, _, rfl, p, c6, _, _, rfl, .inl (.inl kc), (by show 0 < 6; decide), g.rest, fun x Hx hx gi => ?_⟩
    replace g := g.trans gi
    obtain ⟨ao, op, rfl, ko, hop⟩ := six_of k1 k2 k3 k4 k5 k6 hx
    obtain ⟨hop2, hop4⟩ := opens_len hop
    have hopl : (op.map V.str).length = op.length := List.length_map ..
    replace knm := g.same _ _ knm
    replace kn0 := g.same _ _ kn0
    replace kn1 := g.same _ _ kn1
    clear gi k1 k2 k3 k4 k5 k6 ka kb kc hx hl1 hl2 hl3 hl4 hl5 hl6 ha4 hb2 hc6
    refine ⟨ao, rfl, ⟨_, .inl (.inl (g.rest.1 _ _ ko))⟩, fun D hD => ?_⟩
    refine lc_goI (walk_list (xs := op.map V.str)) (by omega) g.rest hD (fun R1 H1 g1 => .inl (.inl (g1.rest.1 _ _ (g1.same _ _ ko)))) (fun i R y => ∃ v : Str, op[i]? = some v ∧ Dp K R y (T1 v)) (fun i _ _ _ s h => h.elim fun v h => ⟨v, h.1, dp_same s _ _ h.2⟩) ?_ ?_
    · rintro j x R6 H6 H6' hj g3 ⟨rfl, hx⟩ C E hC
      rw [List.getElem?_map] at hx
      obtain ⟨v, hv, rfl⟩ := Option.map_eq_some_iff.mp hx
      refine ⟨rfl, yes_then ⟨_, rfl, (by show 1 ≤ sizeLine; decide), fun t ht => ?_⟩⟩
      obtain ⟨gi, du⟩ := tup_new (K := K) (vs := [.str v]) (ds := [.str v]) g3.rest ht (.cons (.str v) .nil)
      exact hC _ _ _ gi ⟨v, hv, du⟩
    intro R6 H6 ys gi kD hyl hP
    replace g := g.trans gi
    replace knm := gi.same _ _ knm
    replace kn0 := gi.same _ _ kn0
    replace kn1 := gi.same _ _ kn1
    have hyo : ys.length = op.length := by rw [hyl, List.length_map]
    have hD2 : DpAll K R6 ys (op.map T1) := dpAll_of_get (by rw [hyo, List.length_map]) fun i y d h1 h2 => by
      obtain ⟨v, hv, hd⟩ := hP i y h1
      rw [List.getElem?_map, hv] at h2
      rw [← Option.some.inj h2]
      exact hd
    have fD : LD K R6 (.ref D) (op.map T1) := ⟨D, ys, rfl, kD, hD2⟩
    refine ⟨_, rfl, _, rfl, _, rfl, _, rfl, D, ys, rfl, .inl (.inl (.inl (g.rest.1 _ _ kD))), _, _, rfl, rfl, p, nm, n0, n1, _, true, _, ns, ms, rfl, g.rest, ⟨knm, kn0, kn1⟩, hcs, ⟨by omega, by omega⟩, fun x R' H' ds gi fx hok hsz => ?_⟩
    replace g := g.trans gi
    have hlen := sizeR_len ds
    refine catL (K := K) g.rest (fD.same gi.same) fx (by rw [List.length_map]; omega) fun y Ri Hi gi fy => ?_
    replace g := g.trans gi
    obtain ⟨ay, vy, rfl, h1, h2⟩ := fy
    refine ⟨ay, vy, rfl, .inl ⟨.inl (.inl (g.rest.1 _ _ h1)), fun z hz => ?_⟩⟩
    obtain ⟨gi, dz⟩ := tup_new (K := K) g.rest hz h2
    exact q _ _ _ _ (g.trans gi) dz ⟨op, ds, hop, rfl, hok, by omega⟩
def spWork (K : PySem.W.Frag) : Sp := fun vs H Q _ => ∃ (p nm n0 n1 : Addr) (R : Hp) (ns ms : List Str), vs = [.ref p, .ref nm] ∧ Rest p R H ∧ (R nm = some (.lst [.ref n0, .ref n1]) ∧ R n0 = some (.lst (ns.map V.str)) ∧ R n1 = some (.lst (ms.map V.str))) ∧
  (0 < ms.length ∧ ms.length ≤ 100 ∧ ns.length ≤ 100 ∧ NamesOk ns ∧ NamesOk ms) ∧ ∀ x R' H' ds, Go p R H R' H' → Dp K R' x (.tuple ds) → WorkOk ns ms ds → Q x H'
theorem sc_l_work : FnScope ["_law_pool_here", "_law_names", "_law_found"] ["_law_pool_here", "_law_names"] (defScope s_l_work) := ⟨rfl, rfl, rfl, by decide +kernel, rfl, by decide +kernel, by decide +kernel⟩
theorem ok_l_work {f : Addr} {fd : FuncData} (F : Fun K "_law_work" "_law_work" s_l_work f fd) (T : Blt K mg) {f1 : Addr} {fd1 : FuncData} (F_l_draw : Fun K "_law_draw" "_law_draw" s_l_draw f1 fd1) (b_l_draw : Binds K fd1 ["_law_pool_here", "_law_many"] []) (g_l_draw : mg "_law_draw" = some (.ref f1)) (G_l_draw : FnOk P w K mg base CX0 1 f1 fd1 ["_law_pool_here", "_law_many"] (spDraw K)) {f2 : Addr} {fd2 : FuncData} (F_l_body : Fun K "_law_body" "_law_body" s_l_body f2 fd2) (b_l_body : Binds K fd2 ["_law_pool_here", "_law_names", "_law_room", "_law_lets"] []) (g_l_body : mg "_law_body" = some (.ref f2)) (G_l_body : FnOk P w K mg base CX0 4 f2 fd2 ["_law_pool_here", "_law_names", "_law_room", "_law_lets"] (spBody K)) : FnOk P w K mg base CX0 5 f fd ["_law_pool_here", "_law_names"] (spWork K) := by
  refine F.ok sc_l_work (fun vs H Q E h => ?_) (fun cdv A outer s H vs Q E hr h => ?_)
  · obtain ⟨p, nm, n0, n1, R, ns, ms, rfl, _⟩ := h
    rfl
  · obtain ⟨p, nm, n0, n1, R, ns, ms, rfl, k, ⟨knm, kn0, kn1⟩, ⟨hms, hms2, hns2, hn1, hn2⟩, q⟩ := h
    refine ⟨_, (pss_cons (ps_set (i := 2) sc_l_work.nd rfl (.inl rfl) (pe_call G_l_body hr (by rfl) g_l_body F_l_body.kp b_l_body .nil pass0 (pa_cons (pv 0) (pa_cons (pv 1) (pa_cons pe_int (pa_cons pe_bl pa_nil)))))) 
        (pss_one (ps_ret (pe_callTy call_tuple_of (by rfl) T.m_tuple (by decide +kernel) (pa_cons (pe_ifExp (pt_cmpR (op_neD hr.units) (pv 2) (pe_lst pa_nil) (nomark _)) (pv 2) (pe_ix ix_list (pe_lst (pa_cons (pe_lst (pa_cons (pe_tup (pa_cons pe_str pa_nil)) pa_nil)) (pa_cons (pe_lst (pa_cons (pe_tup (pa_cons pe_str pa_nil)) pa_nil)) pa_nil))) (pe_call G_l_draw (hr.mono (by decide)) (by rfl) g_l_draw F_l_draw.kp b_l_draw .nil pass0 (pa_cons (pv 0) (pa_cons pe_int pa_nil))) (fun _ _ => rfl))) pa_nil))))), ?_⟩
    have g := k.go
    refine ⟨_, rfl, _, rfl, p, nm, n0, n1, 9, false, R, ns, ms, rfl, g.rest, ⟨knm, kn0, kn1⟩, ⟨hms, hms2, hns2, fun n hn => (hn1 n hn).1⟩, ⟨by decide, by decide⟩, fun x R' H' ds gi fx hok hsz => ?_⟩
    replace g := g.trans gi
    obtain ⟨ax, vx, rfl, h1, h2⟩ := fx
    have hlen := sizeR_len ds
    have hlay : SeqAt.shaped (PyData.list ds) = true := Good.lay (n := 5) (Good.lst.mpr ⟨by omega, rowOk_good hn1 hn2 hok⟩) (by decide)
    refine ⟨_, rfl, Nat.zero_le _, fun b2 hb2 => ?_⟩
    have gi := go_new2 (.lst []) g.rest hb2
    replace g := g.trans gi
    replace h1 := gi.same _ _ h1
    replace h2 := dpAll_same gi.same _ _ h2
    refine ⟨_, _, .lst (.inl (.inl (g.rest.1 _ _ h1))) (dpAll_same g.rest.1 _ _ h2), .lst (xs := []) (.inl (.inl upd_same)) .nil, hlay, rfl, _, rfl, ite2 (fun h => ?_) (fun h => ?_)⟩
    · rw [eqv_nil] at h
      refine ⟨_, rfl, ax, vx, rfl, .inl ⟨.inl (.inl (g.rest.1 _ _ h1)), fun z hz => ?_⟩⟩
      obtain ⟨gi, dz⟩ := tup_new (K := K) g.rest hz h2
      exact q _ _ _ _ (g.trans gi) dz ⟨hok, (fun e => by rw [e] at h; cases h), by omega⟩
    · clear h h1 h2 hlay hlen hok hsz
      refine ⟨(by show 1 ≤ sizeLine; decide), fun u3 hu3 => ?_⟩
      obtain ⟨gi, d3⟩ := tup_new (K := K) (vs := [.str "touch"]) (ds := [.str "touch"]) g.rest hu3 (.cons (.str _) .nil)
      replace g := g.trans gi
      refine ⟨(by show 1 ≤ sizeLine; decide), fun l3 hl3 => ?_⟩
      obtain ⟨gi, f3⟩ := new1 g.rest d3 hl3
      replace g := g.trans gi
      refine ⟨(by show 1 ≤ sizeLine; decide), fun u4 hu4 => ?_⟩
      obtain ⟨gi, d4⟩ := tup_new (K := K) (vs := [.str "use"]) (ds := [.str "use"]) g.rest hu4 (.cons (.str _) .nil)
      replace g := g.trans gi
      replace f3 := f3.same gi.same
      refine ⟨(by show 1 ≤ sizeLine; decide), fun l4 hl4 => ?_⟩
      obtain ⟨gi, f4⟩ := new1 g.rest d4 hl4
      replace g := g.trans gi
      replace f3 := f3.same gi.same
      refine ⟨(by show 2 ≤ sizeLine; decide), fun l5 hl5 => ?_⟩
      obtain ⟨gi, k5⟩ := lst_raw [.ref l3, .ref l4] g.rest hl5
      replace g := g.trans gi
      replace f3 := f3.same gi.same
      replace f4 := f4.same gi.same
      refine ⟨_, rfl, p, 2, _, rfl, by decide, g.rest, fun r1 H1 r10 r11 gi => ?_⟩
      replace g := g.trans gi
      obtain ⟨v, hat, hv⟩ := at_int (xs := [V.ref l3, .ref l4]) r10 (by show r1.toNat < 2; omega)
      refine ⟨l5, _, r1, v, rfl, rfl, .inl (.inl (g.rest.1 _ _ k5)), hat, ?_⟩
      obtain ⟨w, fv, hw⟩ := two_of f3 f4 hv
      obtain ⟨ay, vy, rfl, h1, h2⟩ := fv
      refine ⟨ay, vy, rfl, .inl ⟨.inl (.inl (g.rest.1 _ _ h1)), fun z hz => ?_⟩⟩
      obtain ⟨gi, dz⟩ := tup_new (K := K) g.rest hz h2
      exact q _ _ _ _ (g.trans gi) dz ⟨.plain hw .nil, by simp, by show 1 ≤ 9; decide⟩
end
end K05

namespace K05
open PySem PySem.Spec PyProof.Rows StX L2 TL GG OO LY
theorem flags_eq (s : St3) (z : Str) : (!decide (V.str z = V.str "let") && (s.1 || inV (.str z) [.str "hold", .str "try"]), !decide (V.str z = V.str "leave") && (s.2.1 || decide (V.str z = V.str "enter")), !decide (V.str z = V.str "unlock") && (s.2.2 || decide (V.str z = V.str "lock"))) = stB s z := by
  obtain ⟨h, u, l⟩ := s
  have e1 : inV (.str z) [.str "hold", .str "try"] = (decide (z = "hold") || decide (z = "try")) := by
    rw [show [V.str "hold", V.str "try"] = (["hold", "try"] : List Str).map V.str from rfl, inV_strs, Bool.eq_iff_iff, Bool.or_eq_true, decide_eq_true_iff, decide_eq_true_iff, decide_eq_true_iff]
    simp
  have e2 : ∀ k : Str, decide (V.str z = V.str k) = decide (z = k) := fun k => by
    rw [Bool.eq_iff_iff, decide_eq_true_iff, decide_eq_true_iff]
    exact ⟨fun h => V.str.inj h, fun h => by rw [h]⟩
  rw [e1, e2, e2, e2, e2, e2]
  by_cases h1 : z = "hold"
  · subst h1
    cases h <;> cases u <;> cases l <;> decide +kernel
  by_cases h2 : z = "try"
  · subst h2
    cases h <;> cases u <;> cases l <;> decide +kernel
  by_cases h3 : z = "let"
  · subst h3
    cases h <;> cases u <;> cases l <;> decide +kernel
  by_cases h4 : z = "enter"
  · subst h4
    cases h <;> cases u <;> cases l <;> decide +kernel
  by_cases h5 : z = "leave"
  · subst h5
    cases h <;> cases u <;> cases l <;> decide +kernel
  by_cases h6 : z = "lock"
  · subst h6
    cases h <;> cases u <;> cases l <;> decide +kernel
  by_cases h7 : z = "unlock"
  · subst h7
    cases h <;> cases u <;> cases l <;> decide +kernel
  unfold stB
  rw [if_neg h1, if_neg h2, if_neg h3, if_neg h4, if_neg h5, if_neg h6, if_neg h7, decide_eq_false h1, decide_eq_false h2, decide_eq_false h3, decide_eq_false h4, decide_eq_false h5, decide_eq_false h6, decide_eq_false h7]
  cases h <;> cases u <;> cases l <;> rfl
/-- an entry, as it lies -/
def spFlags (K : PySem.W.Frag) : Sp := fun vs H Q _ => ∃ (f : Addr) (v : V) (s : St3) (d : PyData), vs = [.ref f, v] ∧ H f = some (.lst (v3 s)) ∧ Dp K H v d ∧ ItemD d ∧ ∀ H' l, Same H H' → H l = none → H' l = some (.lst (v3 (stB s (headW d)))) → Q (.ref l) H'
/-- an ask, whatever its way out -/
def hasOut : PyData → Bool
  | .tuple [a, m, .tuple _] => PyData.eqv a (.str "ask") && isNameP m
  | _ => false
theorem hasOut_len {ds : List PyData} (h : ¬ ds.length = 3) : hasOut (.tuple ds) = false := by
  match ds, h with
  | [], _ => rfl
  | [_], _ => rfl
  | [_, _], _ => rfl
  | [_, _, _], h => exact absurd rfl h
  | _ :: _ :: c :: _ :: _, _ => cases c <;> rfl
theorem name_str {d : PyData} (h : isStr d = false) : isNameP d = false := by cases d <;> first | rfl | cases h
section
variable {P : Program} {w : World} {K : PySem.W.Frag} {mg : Str → Option Value} {base : Heap} {lt0 lt1 lt2 lt3 lt4 : Tok} {t0 t1 t2 t3 t4 t5 t6 t7 t8 tF tO dC : Addr}
theorem sc_l_flags : FnScope ["_law_flags_here", "_law_item", "_law_word", "_law_holds", "_law_under"] ["_law_flags_here", "_law_item"] (defScope s_l_flags) := ⟨rfl, rfl, rfl, by decide +kernel, rfl, by decide +kernel, by decide +kernel⟩
theorem ok_l_flags {f : Addr} {fd : FuncData} (F : Fun K "_law_flags" "_law_flags" s_l_flags f fd) (T : Txt K mg lt0 lt1 lt2 lt3 lt4 t0 t1 t2 t3 t4 t5 t6 t7 t8 tF tO dC) : FnOk P w K mg base CX0 1 f fd ["_law_flags_here", "_law_item"] (spFlags K) := by
  refine F.ok sc_l_flags (fun vs H Q E h => ?_) (fun cdv A outer s H vs Q E hr h => ?_)
  · obtain ⟨f0, v, s0, d, rfl, _⟩ := h
    rfl
  · obtain ⟨f0, v, s0, d, rfl, hf, hd, hit, q⟩ := h
    refine ⟨_, (pss_cons (ps_set (i := 2) sc_l_flags.nd rfl (.inl rfl) (pe_ix ix_tup (pv 1) pe_int (fun _ _ => rfl))) 
        (pss_cons (ps_set (i := 3) sc_l_flags.nd rfl (.inl rfl) (pe_and (pe_cmpR op_ne (pv 2) pe_str (nomark _)) (pe_one (pe_or (pe_ix ix_list (pv 0) pe_int (fun _ _ => rfl)) (pe_one (pe_cmpR op_in_seq (pv 2) (pe_lst (pa_cons pe_str (pa_cons pe_str pa_nil))) (by rfl))))))) 
        (pss_cons (ps_set (i := 4) sc_l_flags.nd rfl (.inl rfl) (pe_and (pe_cmpR op_ne (pv 2) pe_str (nomark _)) (pe_one (pe_or (pe_ix ix_list (pv 0) pe_int (fun _ _ => rfl)) (pe_one (pe_cmpR op_eq (pv 2) pe_str (nomark _))))))) 
        (pss_one (ps_ret (pe_lst (pa_cons (pv 3) (pa_cons (pv 4) (pa_cons (pe_and (pe_cmpR op_ne (pv 2) pe_str (nomark _)) (pe_one (pe_or (pe_ix ix_list (pv 0) pe_int (fun _ _ => rfl)) (pe_one (pe_cmpR op_eq (pv 2) pe_str (nomark _)))))) pa_nil))))))))), ?_⟩
    obtain ⟨z, r5, rfl, hhd⟩ := hit.head
    obtain ⟨xa, xv, rfl, hxs, hx0⟩ := dp_head hd
    obtain ⟨b0, b1, b2⟩ := s0
    have fin : ∀ (c0 c1 c2 : Bool) (H1 : Hp), Same H H1 → (c0, c1, c2) = stB (b0, b1, b2) z → [V.bl c0, .bl c1, .bl c2].length ≤ sizeLine ∧ ∀ l, H1 l = none → Q (.ref l) (upd H1 l (.lst [V.bl c0, .bl c1, .bl c2])) := fun c0 c1 c2 H1 s1 e => ⟨(by show 3 ≤ sizeLine; decide), fun l hl => q _ l (s1.trans (same_upd hl)) (s1.free hl) (by rw [upd_same, show headW (.tuple (.str z :: r5)) = z from rfl, ← e]; rfl)⟩
    have fe := flags_eq (b0, b1, b2) z
    have hf2 : ∀ H1, Same H H1 → SqL K H1 f0 [V.bl b0, .bl b1, .bl b2] := fun H1 s1 => .inl (.inl (s1 _ _ hf))
    refine ⟨_, rfl, xa, xv, _, _, rfl, rfl, hxs, hx0, ?_⟩
    refine ⟨_, rfl, rfl, _, rfl, ite2 (fun a0 => ?_) (fun a0 => ?_)⟩
    · refine ⟨_, rfl, f0, _, _, _, rfl, rfl, hf2 _ (Same.refl _), atI_nat (j := 0) rfl, _, rfl, ite2 (fun c0 => ?_) (fun c0 => ?_)⟩
      · refine ⟨_, rfl, rfl, _, rfl, ite2 (fun a1 => ?_) (fun a1 => ?_)⟩
        · refine ⟨_, rfl, f0, _, _, _, rfl, rfl, hf2 _ (Same.refl _), atI_nat (j := 1) rfl, _, rfl, ite2 (fun c1 => ?_) (fun c1 => ?_)⟩
          · refine ⟨_, rfl, _, rfl, _, rfl, rfl, _, rfl, ite2 (fun a2 => ?_) (fun a2 => ?_)⟩
            · refine ⟨_, rfl, f0, _, _, _, rfl, rfl, hf2 _ (Same.refl _), atI_nat (j := 2) rfl, _, rfl, ite2 (fun c2 => ?_) (fun c2 => ?_)⟩
              · exact fin _ _ _ _ (Same.refl _) (by rw [← fe]; exact Prod.ext (by show _ = (!decide (V.str z = V.str "let") && (b0 || _)); rw [show (!decide (V.str z = V.str "let")) = true from a0, c0]; rfl) (Prod.ext (by show _ = (!decide (V.str z = V.str "leave") && (b1 || _)); rw [show (!decide (V.str z = V.str "leave")) = true from a1, c1]; rfl) (by show _ = (!decide (V.str z = V.str "unlock") && (b2 || _)); rw [show (!decide (V.str z = V.str "unlock")) = true from a2, c2]; rfl)))
              · refine ⟨_, rfl, rfl, ?_⟩
                exact fin _ _ _ _ (Same.refl _) (by rw [← fe]; exact Prod.ext (by show _ = (!decide (V.str z = V.str "let") && (b0 || _)); rw [show (!decide (V.str z = V.str "let")) = true from a0, c0]; rfl) (Prod.ext (by show _ = (!decide (V.str z = V.str "leave") && (b1 || _)); rw [show (!decide (V.str z = V.str "leave")) = true from a1, c1]; rfl) (by show _ = (!decide (V.str z = V.str "unlock") && (b2 || _)); rw [show (!decide (V.str z = V.str "unlock")) = true from a2, bf c2]; rfl)))
            · exact fin _ _ _ _ (Same.refl _) (by rw [← fe]; exact Prod.ext (by show _ = (!decide (V.str z = V.str "let") && (b0 || _)); rw [show (!decide (V.str z = V.str "let")) = true from a0, c0]; rfl) (Prod.ext (by show _ = (!decide (V.str z = V.str "leave") && (b1 || _)); rw [show (!decide (V.str z = V.str "leave")) = true from a1, c1]; rfl) (by show _ = (!decide (V.str z = V.str "unlock") && (b2 || _)); rw [show (!decide (V.str z = V.str "unlock")) = false from bf a2]; rfl)))
          · refine ⟨_, rfl, rfl, ?_⟩
            refine ⟨_, rfl, _, rfl, _, rfl, rfl, _, rfl, ite2 (fun a2 => ?_) (fun a2 => ?_)⟩
            · refine ⟨_, rfl, f0, _, _, _, rfl, rfl, hf2 _ (Same.refl _), atI_nat (j := 2) rfl, _, rfl, ite2 (fun c2 => ?_) (fun c2 => ?_)⟩
              · exact fin _ _ _ _ (Same.refl _) (by rw [← fe]; exact Prod.ext (by show _ = (!decide (V.str z = V.str "let") && (b0 || _)); rw [show (!decide (V.str z = V.str "let")) = true from a0, c0]; rfl) (Prod.ext (by show _ = (!decide (V.str z = V.str "leave") && (b1 || _)); rw [show (!decide (V.str z = V.str "leave")) = true from a1, bf c1]; rfl) (by show _ = (!decide (V.str z = V.str "unlock") && (b2 || _)); rw [show (!decide (V.str z = V.str "unlock")) = true from a2, c2]; rfl)))
              · refine ⟨_, rfl, rfl, ?_⟩
                exact fin _ _ _ _ (Same.refl _) (by rw [← fe]; exact Prod.ext (by show _ = (!decide (V.str z = V.str "let") && (b0 || _)); rw [show (!decide (V.str z = V.str "let")) = true from a0, c0]; rfl) (Prod.ext (by show _ = (!decide (V.str z = V.str "leave") && (b1 || _)); rw [show (!decide (V.str z = V.str "leave")) = true from a1, bf c1]; rfl) (by show _ = (!decide (V.str z = V.str "unlock") && (b2 || _)); rw [show (!decide (V.str z = V.str "unlock")) = true from a2, bf c2]; rfl)))
            · exact fin _ _ _ _ (Same.refl _) (by rw [← fe]; exact Prod.ext (by show _ = (!decide (V.str z = V.str "let") && (b0 || _)); rw [show (!decide (V.str z = V.str "let")) = true from a0, c0]; rfl) (Prod.ext (by show _ = (!decide (V.str z = V.str "leave") && (b1 || _)); rw [show (!decide (V.str z = V.str "leave")) = true from a1, bf c1]; rfl) (by show _ = (!decide (V.str z = V.str "unlock") && (b2 || _)); rw [show (!decide (V.str z = V.str "unlock")) = false from bf a2]; rfl)))
        · refine ⟨_, rfl, _, rfl, _, rfl, rfl, _, rfl, ite2 (fun a2 => ?_) (fun a2 => ?_)⟩
          · refine ⟨_, rfl, f0, _, _, _, rfl, rfl, hf2 _ (Same.refl _), atI_nat (j := 2) rfl, _, rfl, ite2 (fun c2 => ?_) (fun c2 => ?_)⟩
            · exact fin _ _ _ _ (Same.refl _) (by rw [← fe]; exact Prod.ext (by show _ = (!decide (V.str z = V.str "let") && (b0 || _)); rw [show (!decide (V.str z = V.str "let")) = true from a0, c0]; rfl) (Prod.ext (by show _ = (!decide (V.str z = V.str "leave") && (b1 || _)); rw [show (!decide (V.str z = V.str "leave")) = false from bf a1]; rfl) (by show _ = (!decide (V.str z = V.str "unlock") && (b2 || _)); rw [show (!decide (V.str z = V.str "unlock")) = true from a2, c2]; rfl)))
            · refine ⟨_, rfl, rfl, ?_⟩
              exact fin _ _ _ _ (Same.refl _) (by rw [← fe]; exact Prod.ext (by show _ = (!decide (V.str z = V.str "let") && (b0 || _)); rw [show (!decide (V.str z = V.str "let")) = true from a0, c0]; rfl) (Prod.ext (by show _ = (!decide (V.str z = V.str "leave") && (b1 || _)); rw [show (!decide (V.str z = V.str "leave")) = false from bf a1]; rfl) (by show _ = (!decide (V.str z = V.str "unlock") && (b2 || _)); rw [show (!decide (V.str z = V.str "unlock")) = true from a2, bf c2]; rfl)))
          · exact fin _ _ _ _ (Same.refl _) (by rw [← fe]; exact Prod.ext (by show _ = (!decide (V.str z = V.str "let") && (b0 || _)); rw [show (!decide (V.str z = V.str "let")) = true from a0, c0]; rfl) (Prod.ext (by show _ = (!decide (V.str z = V.str "leave") && (b1 || _)); rw [show (!decide (V.str z = V.str "leave")) = false from bf a1]; rfl) (by show _ = (!decide (V.str z = V.str "unlock") && (b2 || _)); rw [show (!decide (V.str z = V.str "unlock")) = false from bf a2]; rfl)))
      · refine ⟨_, rfl, (by show 2 ≤ sizeLine; decide), fun o0 ho => ⟨o0, _, rfl, .inl (.inl (.inl upd_same)), rfl, flat_strs ["hold", "try"], ?_⟩⟩
        refine ⟨_, rfl, rfl, _, rfl, ite2 (fun a1 => ?_) (fun a1 => ?_)⟩
        · refine ⟨_, rfl, f0, _, _, _, rfl, rfl, hf2 _ ((Same.refl _).trans (same_upd ho)), atI_nat (j := 1) rfl, _, rfl, ite2 (fun c1 => ?_) (fun c1 => ?_)⟩
          · refine ⟨_, rfl, _, rfl, _, rfl, rfl, _, rfl, ite2 (fun a2 => ?_) (fun a2 => ?_)⟩
            · refine ⟨_, rfl, f0, _, _, _, rfl, rfl, hf2 _ ((Same.refl _).trans (same_upd ho)), atI_nat (j := 2) rfl, _, rfl, ite2 (fun c2 => ?_) (fun c2 => ?_)⟩
              · exact fin _ _ _ _ ((Same.refl _).trans (same_upd ho)) (by rw [← fe]; exact Prod.ext (by show _ = (!decide (V.str z = V.str "let") && (b0 || _)); rw [show (!decide (V.str z = V.str "let")) = true from a0, bf c0]; rfl) (Prod.ext (by show _ = (!decide (V.str z = V.str "leave") && (b1 || _)); rw [show (!decide (V.str z = V.str "leave")) = true from a1, c1]; rfl) (by show _ = (!decide (V.str z = V.str "unlock") && (b2 || _)); rw [show (!decide (V.str z = V.str "unlock")) = true from a2, c2]; rfl)))
              · refine ⟨_, rfl, rfl, ?_⟩
                exact fin _ _ _ _ ((Same.refl _).trans (same_upd ho)) (by rw [← fe]; exact Prod.ext (by show _ = (!decide (V.str z = V.str "let") && (b0 || _)); rw [show (!decide (V.str z = V.str "let")) = true from a0, bf c0]; rfl) (Prod.ext (by show _ = (!decide (V.str z = V.str "leave") && (b1 || _)); rw [show (!decide (V.str z = V.str "leave")) = true from a1, c1]; rfl) (by show _ = (!decide (V.str z = V.str "unlock") && (b2 || _)); rw [show (!decide (V.str z = V.str "unlock")) = true from a2, bf c2]; rfl)))
            · exact fin _ _ _ _ ((Same.refl _).trans (same_upd ho)) (by rw [← fe]; exact Prod.ext (by show _ = (!decide (V.str z = V.str "let") && (b0 || _)); rw [show (!decide (V.str z = V.str "let")) = true from a0, bf c0]; rfl) (Prod.ext (by show _ = (!decide (V.str z = V.str "leave") && (b1 || _)); rw [show (!decide (V.str z = V.str "leave")) = true from a1, c1]; rfl) (by show _ = (!decide (V.str z = V.str "unlock") && (b2 || _)); rw [show (!decide (V.str z = V.str "unlock")) = false from bf a2]; rfl)))
          · refine ⟨_, rfl, rfl, ?_⟩
            refine ⟨_, rfl, _, rfl, _, rfl, rfl, _, rfl, ite2 (fun a2 => ?_) (fun a2 => ?_)⟩
            · refine ⟨_, rfl, f0, _, _, _, rfl, rfl, hf2 _ ((Same.refl _).trans (same_upd ho)), atI_nat (j := 2) rfl, _, rfl, ite2 (fun c2 => ?_) (fun c2 => ?_)⟩
              · exact fin _ _ _ _ ((Same.refl _).trans (same_upd ho)) (by rw [← fe]; exact Prod.ext (by show _ = (!decide (V.str z = V.str "let") && (b0 || _)); rw [show (!decide (V.str z = V.str "let")) = true from a0, bf c0]; rfl) (Prod.ext (by show _ = (!decide (V.str z = V.str "leave") && (b1 || _)); rw [show (!decide (V.str z = V.str "leave")) = true from a1, bf c1]; rfl) (by show _ = (!decide (V.str z = V.str "unlock") && (b2 || _)); rw [show (!decide (V.str z = V.str "unlock")) = true from a2, c2]; rfl)))
              · refine ⟨_, rfl, rfl, ?_⟩
                exact fin _ _ _ _ ((Same.refl _).trans (same_upd ho)) (by rw [← fe]; exact Prod.ext (by show _ = (!decide (V.str z = V.str "let") && (b0 || _)); rw [show (!decide (V.str z = V.str "let")) = true from a0, bf c0]; rfl) (Prod.ext (by show _ = (!decide (V.str z = V.str "leave") && (b1 || _)); rw [show (!decide (V.str z = V.str "leave")) = true from a1, bf c1]; rfl) (by show _ = (!decide (V.str z = V.str "unlock") && (b2 || _)); rw [show (!decide (V.str z = V.str "unlock")) = true from a2, bf c2]; rfl)))
            · exact fin _ _ _ _ ((Same.refl _).trans (same_upd ho)) (by rw [← fe]; exact Prod.ext (by show _ = (!decide (V.str z = V.str "let") && (b0 || _)); rw [show (!decide (V.str z = V.str "let")) = true from a0, bf c0]; rfl) (Prod.ext (by show _ = (!decide (V.str z = V.str "leave") && (b1 || _)); rw [show (!decide (V.str z = V.str "leave")) = true from a1, bf c1]; rfl) (by show _ = (!decide (V.str z = V.str "unlock") && (b2 || _)); rw [show (!decide (V.str z = V.str "unlock")) = false from bf a2]; rfl)))
        · refine ⟨_, rfl, _, rfl, _, rfl, rfl, _, rfl, ite2 (fun a2 => ?_) (fun a2 => ?_)⟩
          · refine ⟨_, rfl, f0, _, _, _, rfl, rfl, hf2 _ ((Same.refl _).trans (same_upd ho)), atI_nat (j := 2) rfl, _, rfl, ite2 (fun c2 => ?_) (fun c2 => ?_)⟩
            · exact fin _ _ _ _ ((Same.refl _).trans (same_upd ho)) (by rw [← fe]; exact Prod.ext (by show _ = (!decide (V.str z = V.str "let") && (b0 || _)); rw [show (!decide (V.str z = V.str "let")) = true from a0, bf c0]; rfl) (Prod.ext (by show _ = (!decide (V.str z = V.str "leave") && (b1 || _)); rw [show (!decide (V.str z = V.str "leave")) = false from bf a1]; rfl) (by show _ = (!decide (V.str z = V.str "unlock") && (b2 || _)); rw [show (!decide (V.str z = V.str "unlock")) = true from a2, c2]; rfl)))
            · refine ⟨_, rfl, rfl, ?_⟩
              exact fin _ _ _ _ ((Same.refl _).trans (same_upd ho)) (by rw [← fe]; exact Prod.ext (by show _ = (!decide (V.str z = V.str "let") && (b0 || _)); rw [show (!decide (V.str z = V.str "let")) = true from a0, bf c0]; rfl) (Prod.ext (by show _ = (!decide (V.str z = V.str "leave") && (b1 || _)); rw [show (!decide (V.str z = V.str "leave")) = false from bf a1]; rfl) (by show _ = (!decide (V.str z = V.str "unlock") && (b2 || _)); rw [show (!decide (V.str z = V.str "unlock")) = true from a2, bf c2]; rfl)))
          · exact fin _ _ _ _ ((Same.refl _).trans (same_upd ho)) (by rw [← fe]; exact Prod.ext (by show _ = (!decide (V.str z = V.str "let") && (b0 || _)); rw [show (!decide (V.str z = V.str "let")) = true from a0, bf c0]; rfl) (Prod.ext (by show _ = (!decide (V.str z = V.str "leave") && (b1 || _)); rw [show (!decide (V.str z = V.str "leave")) = false from bf a1]; rfl) (by show _ = (!decide (V.str z = V.str "unlock") && (b2 || _)); rw [show (!decide (V.str z = V.str "unlock")) = false from bf a2]; rfl)))
    · refine ⟨_, rfl, rfl, _, rfl, ite2 (fun a1 => ?_) (fun a1 => ?_)⟩
      · refine ⟨_, rfl, f0, _, _, _, rfl, rfl, hf2 _ (Same.refl _), atI_nat (j := 1) rfl, _, rfl, ite2 (fun c1 => ?_) (fun c1 => ?_)⟩
        · refine ⟨_, rfl, _, rfl, _, rfl, rfl, _, rfl, ite2 (fun a2 => ?_) (fun a2 => ?_)⟩
          · refine ⟨_, rfl, f0, _, _, _, rfl, rfl, hf2 _ (Same.refl _), atI_nat (j := 2) rfl, _, rfl, ite2 (fun c2 => ?_) (fun c2 => ?_)⟩
            · exact fin _ _ _ _ (Same.refl _) (by rw [← fe]; exact Prod.ext (by show _ = (!decide (V.str z = V.str "let") && (b0 || _)); rw [show (!decide (V.str z = V.str "let")) = false from bf a0]; rfl) (Prod.ext (by show _ = (!decide (V.str z = V.str "leave") && (b1 || _)); rw [show (!decide (V.str z = V.str "leave")) = true from a1, c1]; rfl) (by show _ = (!decide (V.str z = V.str "unlock") && (b2 || _)); rw [show (!decide (V.str z = V.str "unlock")) = true from a2, c2]; rfl)))
            · refine ⟨_, rfl, rfl, ?_⟩
              exact fin _ _ _ _ (Same.refl _) (by rw [← fe]; exact Prod.ext (by show _ = (!decide (V.str z = V.str "let") && (b0 || _)); rw [show (!decide (V.str z = V.str "let")) = false from bf a0]; rfl) (Prod.ext (by show _ = (!decide (V.str z = V.str "leave") && (b1 || _)); rw [show (!decide (V.str z = V.str "leave")) = true from a1, c1]; rfl) (by show _ = (!decide (V.str z = V.str "unlock") && (b2 || _)); rw [show (!decide (V.str z = V.str "unlock")) = true from a2, bf c2]; rfl)))
          · exact fin _ _ _ _ (Same.refl _) (by rw [← fe]; exact Prod.ext (by show _ = (!decide (V.str z = V.str "let") && (b0 || _)); rw [show (!decide (V.str z = V.str "let")) = false from bf a0]; rfl) (Prod.ext (by show _ = (!decide (V.str z = V.str "leave") && (b1 || _)); rw [show (!decide (V.str z = V.str "leave")) = true from a1, c1]; rfl) (by show _ = (!decide (V.str z = V.str "unlock") && (b2 || _)); rw [show (!decide (V.str z = V.str "unlock")) = false from bf a2]; rfl)))
        · refine ⟨_, rfl, rfl, ?_⟩
          refine ⟨_, rfl, _, rfl, _, rfl, rfl, _, rfl, ite2 (fun a2 => ?_) (fun a2 => ?_)⟩
          · refine ⟨_, rfl, f0, _, _, _, rfl, rfl, hf2 _ (Same.refl _), atI_nat (j := 2) rfl, _, rfl, ite2 (fun c2 => ?_) (fun c2 => ?_)⟩
            · exact fin _ _ _ _ (Same.refl _) (by rw [← fe]; exact Prod.ext (by show _ = (!decide (V.str z = V.str "let") && (b0 || _)); rw [show (!decide (V.str z = V.str "let")) = false from bf a0]; rfl) (Prod.ext (by show _ = (!decide (V.str z = V.str "leave") && (b1 || _)); rw [show (!decide (V.str z = V.str "leave")) = true from a1, bf c1]; rfl) (by show _ = (!decide (V.str z = V.str "unlock") && (b2 || _)); rw [show (!decide (V.str z = V.str "unlock")) = true from a2, c2]; rfl)))
            · refine ⟨_, rfl, rfl, ?_⟩
              exact fin _ _ _ _ (Same.refl _) (by rw [← fe]; exact Prod.ext (by show _ = (!decide (V.str z = V.str "let") && (b0 || _)); rw [show (!decide (V.str z = V.str "let")) = false from bf a0]; rfl) (Prod.ext (by show _ = (!decide (V.str z = V.str "leave") && (b1 || _)); rw [show (!decide (V.str z = V.str "leave")) = true from a1, bf c1]; rfl) (by show _ = (!decide (V.str z = V.str "unlock") && (b2 || _)); rw [show (!decide (V.str z = V.str "unlock")) = true from a2, bf c2]; rfl)))
          · exact fin _ _ _ _ (Same.refl _) (by rw [← fe]; exact Prod.ext (by show _ = (!decide (V.str z = V.str "let") && (b0 || _)); rw [show (!decide (V.str z = V.str "let")) = false from bf a0]; rfl) (Prod.ext (by show _ = (!decide (V.str z = V.str "leave") && (b1 || _)); rw [show (!decide (V.str z = V.str "leave")) = true from a1, bf c1]; rfl) (by show _ = (!decide (V.str z = V.str "unlock") && (b2 || _)); rw [show (!decide (V.str z = V.str "unlock")) = false from bf a2]; rfl)))
      · refine ⟨_, rfl, _, rfl, _, rfl, rfl, _, rfl, ite2 (fun a2 => ?_) (fun a2 => ?_)⟩
        · refine ⟨_, rfl, f0, _, _, _, rfl, rfl, hf2 _ (Same.refl _), atI_nat (j := 2) rfl, _, rfl, ite2 (fun c2 => ?_) (fun c2 => ?_)⟩
          · exact fin _ _ _ _ (Same.refl _) (by rw [← fe]; exact Prod.ext (by show _ = (!decide (V.str z = V.str "let") && (b0 || _)); rw [show (!decide (V.str z = V.str "let")) = false from bf a0]; rfl) (Prod.ext (by show _ = (!decide (V.str z = V.str "leave") && (b1 || _)); rw [show (!decide (V.str z = V.str "leave")) = false from bf a1]; rfl) (by show _ = (!decide (V.str z = V.str "unlock") && (b2 || _)); rw [show (!decide (V.str z = V.str "unlock")) = true from a2, c2]; rfl)))
          · refine ⟨_, rfl, rfl, ?_⟩
            exact fin _ _ _ _ (Same.refl _) (by rw [← fe]; exact Prod.ext (by show _ = (!decide (V.str z = V.str "let") && (b0 || _)); rw [show (!decide (V.str z = V.str "let")) = false from bf a0]; rfl) (Prod.ext (by show _ = (!decide (V.str z = V.str "leave") && (b1 || _)); rw [show (!decide (V.str z = V.str "leave")) = false from bf a1]; rfl) (by show _ = (!decide (V.str z = V.str "unlock") && (b2 || _)); rw [show (!decide (V.str z = V.str "unlock")) = true from a2, bf c2]; rfl)))
        · exact fin _ _ _ _ (Same.refl _) (by rw [← fe]; exact Prod.ext (by show _ = (!decide (V.str z = V.str "let") && (b0 || _)); rw [show (!decide (V.str z = V.str "let")) = false from bf a0]; rfl) (Prod.ext (by show _ = (!decide (V.str z = V.str "leave") && (b1 || _)); rw [show (!decide (V.str z = V.str "leave")) = false from bf a1]; rfl) (by show _ = (!decide (V.str z = V.str "unlock") && (b2 || _)); rw [show (!decide (V.str z = V.str "unlock")) = false from bf a2]; rfl)))
theorem sc_l_has_out : FnScope ["_law_item"] ["_law_item"] (defScope s_l_has_out) := ⟨rfl, rfl, rfl, by decide +kernel, rfl, by decide +kernel, by decide +kernel⟩
theorem ok_l_has_out {f : Addr} {fd : FuncData} (F : Fun K "_law_has_out" "_law_has_out" s_l_has_out f fd) (T : Txt K mg lt0 lt1 lt2 lt3 lt4 t0 t1 t2 t3 t4 t5 t6 t7 t8 tF tO dC) {f1 : Addr} {fd1 : FuncData} (F_is_name : Fun K "is_name" "is_name" s_is_name f1 fd1) (b_is_name : Binds K fd1 ["value"] []) (g_is_name : mg "is_name" = some (.ref f1)) (G_is_name : FnOk P w K mg base CX0 1 f1 fd1 ["value"] (spChk K isNameP)) : FnOk P w K mg base CX0 2 f fd ["_law_item"] (spChk K hasOut) := by
  refine F.ok sc_l_has_out (fun vs H Q E h => ?_) (fun cdv A outer s H vs Q E hr h => ?_)
  · obtain ⟨x, d, rfl, _⟩ := h
    rfl
  · obtain ⟨x, d, rfl, hv, q⟩ := h
    refine ⟨_, (pss_cons (ps_if (PW.pt (pw_or (pt_not (pt_val (pe_callB call_isi (by rfl) T.m_isinstance (by decide +kernel) (pa_cons (pv 0) (pa_cons (pe_bltn (v := .ty "tuple") (u := .type "tuple") (by rfl) T.m_tuple (by decide +kernel) rfl) pa_nil))))) (pw_or (pt_cmpR op_ne (pe_callB call_len_seq (by rfl) T.m_len PySem.boot_len (pa_cons (pv 0) pa_nil)) pe_int (nomark _)) (pw_or (pt_cmpR (op_neD hr.units) (pe_ix ix_tup (pv 0) pe_int (fun _ _ => rfl)) pe_str (nomark _)) (pw_or1 (pt_not (pt_val (pe_callB call_isi (by rfl) T.m_isinstance (by decide +kernel) (pa_cons (pe_ix ix_tup (pv 0) pe_int (fun _ _ => rfl)) (pa_cons (pe_bltn (v := .ty "tuple") (u := .type "tuple") (by rfl) T.m_tuple (by decide +kernel) rfl) pa_nil)))))))))) 
          (pss_one (ps_ret pe_bl)) pss_nil) 
        (pss_one (ps_ret (pe_and (pe_callB call_isi (by rfl) T.m_isinstance (by decide +kernel) (pa_cons (pe_ix ix_tup (pv 0) pe_int (fun _ _ => rfl)) (pa_cons (pe_bltn (v := .ty "str") (u := .type "str") (by rfl) T.m_str (by decide +kernel) rfl) pa_nil))) (pe_one (pe_call G_is_name hr (by rfl) g_is_name F_is_name.kp b_is_name .nil pass0 (pa_cons (pe_ix ix_tup (pv 0) pe_int (fun _ _ => rfl)) pa_nil))))))), ?_⟩
    refine ⟨_, rfl, _, _, _, _, _, rfl, .ty "tuple", hv.ty, isi_tup d, _, rfl, ?_⟩
    cases ht : isTup d with
    | false =>
      have e : hasOut d = false := by cases d <;> first | rfl | cases ht
      have := q H (Same.refl H)
      rw [e] at this
      exact iteT this
    | true =>
      obtain ⟨ds, rfl⟩ : ∃ ds, d = .tuple ds := by cases d <;> first | exact ⟨_, rfl⟩ | cases ht
      have hgd := (GG.Good.tup (n := 59)).mp hv.dp.2
      obtain ⟨b, xs, rfl, hs, ha, hl, h1000, hget⟩ := hv.tup
      refine iteF ⟨_, rfl, b, xs, rfl, .inr hs, rfl, _, rfl, ite2 (fun h3 => ?_) (fun h3 => ?_)⟩
      · have h3 : ¬ ds.length = 3 := fun z => by
          have h3 : (!decide (V.int (xs.length : Int) = V.int 3)) = true := h3
          rw [decide_eq_true (by rw [hl, z]; rfl)] at h3
          cases h3
        have := q H (Same.refl H)
        rw [hasOut_len h3] at this
        exact this
      · have h3 : ds.length = 3 := by
          have h3 : (!decide (V.int (xs.length : Int) = V.int 3)) = false := bf h3
          have := V.int.inj (of_decide_eq_true (by simpa using h3) : V.int (xs.length : Int) = V.int 3)
          omega
        obtain ⟨d0, d1, d2, rfl⟩ : ∃ a b c, ds = [a, b, c] := by
          match ds, h3 with
          | [a, b, c], _ => exact ⟨a, b, c, rfl⟩
        obtain ⟨v0, x0, y0⟩ := hget 0 d0 rfl
        obtain ⟨v1, x1, y1⟩ := hget 1 d1 rfl
        obtain ⟨v2, x2, y2⟩ := hget 2 d2 rfl
        have g0 := hgd.2 d0 (by simp)
        refine ⟨_, rfl, b, xs, _, _, rfl, rfl, hs, atI_nat x0, d0, .str "ask", dpAll_at ha x0 rfl, .str _, g0.lay (by decide), by decide +kernel, _, rfl, ite2 (fun ha0 => ?_) (fun ha0 => ?_)⟩
        · have ha0 : PyData.eqv d0 (.str "ask") = false := by rw [← Bool.not_eq_true']; exact ha0
          have := q H (Same.refl H)
          have e : hasOut (.tuple [d0, d1, d2]) = false := by
            cases d2 <;> first | rfl | (show (PyData.eqv d0 (.str "ask") && _) = false; rw [ha0]; rfl)
          rw [e] at this
          exact this
        · have ha0 : PyData.eqv d0 (.str "ask") = true := by
            cases h : PyData.eqv d0 (.str "ask")
            · exact absurd (by rw [h]; rfl) ha0
            · rfl
          refine ⟨_, rfl, b, xs, _, _, rfl, rfl, hs, atI_nat x2, _, _, _, _, _, rfl, .ty "tuple", y2.ty, isi_tup d2, _, rfl, ?_⟩
          cases ht2 : isTup d2 with
          | false =>
            have e : hasOut (.tuple [d0, d1, d2]) = false := by cases d2 <;> first | rfl | cases ht2
            have := q H (Same.refl H)
            rw [e] at this
            exact iteT this
          | true =>
            obtain ⟨os, rfl⟩ : ∃ os, d2 = .tuple os := by cases d2 <;> first | exact ⟨_, rfl⟩ | cases ht2
            have e : hasOut (.tuple [d0, d1, .tuple os]) = isNameP d1 := by
              show (PyData.eqv d0 (.str "ask") && isNameP d1) = _
              rw [ha0, Bool.true_and]
            refine iteF ⟨_, rfl, b, xs, _, _, rfl, rfl, hs, atI_nat x1, _, _, _, _, _, rfl, .ty "str", y1.ty, isi_str d1, _, rfl, ite2 (fun hst => ?_) (fun hst => ?_)⟩
            · refine ⟨_, rfl, b, xs, _, _, rfl, rfl, hs, atI_nat x1, v1, d1, rfl, y1, fun H' s' => ?_⟩
              have := q H' s'
              rw [e] at this
              exact this
            · have := q H (Same.refl H)
              rw [e, name_str (bf hst)] at this
              exact this
end
end K05

namespace K05
open PySem PySem.Spec PyProof.Rows StX L2 TL GG OO LY
/-- what an ask has for a way out -/
def outOf : PyData → List PyData
  | .tuple [_, _, .tuple os] => os
  | _ => []
def numB1 (d : PyData) : List (PyData × Bool) := (d, false) :: (if hasOut d = true then (outOf d).map fun z => (z, true) else [])
/-- the items numbered, with those of ways out -/
def numB (ds : List PyData) : List (PyData × Bool) := ds.flatMap numB1
def prB (p : PyData × Bool) : PyData := .tuple [p.1, .bool p.2]
theorem numB_snoc (ds : List PyData) (d : PyData) : numB (ds ++ [d]) = numB ds ++ numB1 d := by
  unfold numB
  rw [List.flatMap_append]
  simp
theorem out_form {d : PyData} (h : hasOut d = true) : ∃ a m os, d = .tuple [a, m, .tuple os] ∧ PyData.eqv a (.str "ask") = true ∧ isNameP m = true := by
  match d, h with
  | .tuple [a, m, .tuple os], h =>
    have h : (PyData.eqv a (.str "ask") && isNameP m) = true := h
    rw [Bool.and_eq_true] at h
    exact ⟨a, m, os, rfl, h.1, h.2⟩
def spNumB (K : PySem.W.Frag) : Sp := fun vs H Q _ => ∃ (x : V) (ds : List PyData), vs = [x] ∧ Val K H x (.tuple ds) ∧ (numB ds).length ≤ 500 ∧ ∀ H' l zs, Same H H' → H l = none → H' l = some (.lst zs) → DpAll K H' zs ((numB ds).map prB) → Q (.ref l) H'
section
variable {P : Program} {w : World} {K : PySem.W.Frag} {mg : Str → Option Value} {base : Heap} {lt0 lt1 lt2 lt3 lt4 : Tok} {t0 t1 t2 t3 t4 t5 t6 t7 t8 tF tO dC : Addr}
theorem sc_l_numbered : FnScope ["_law_items", "_law_found", "_law_item", "_law_one"] ["_law_items"] (defScope s_l_numbered) := ⟨rfl, rfl, rfl, by decide +kernel, rfl, by decide +kernel, by decide +kernel⟩
theorem ok_l_numbered {f : Addr} {fd : FuncData} (F : Fun K "_law_numbered" "_law_numbered" s_l_numbered f fd) (T : Txt K mg lt0 lt1 lt2 lt3 lt4 t0 t1 t2 t3 t4 t5 t6 t7 t8 tF tO dC) {f1 : Addr} {fd1 : FuncData} (F_l_has_out : Fun K "_law_has_out" "_law_has_out" s_l_has_out f1 fd1) (b_l_has_out : Binds K fd1 ["_law_item"] []) (g_l_has_out : mg "_law_has_out" = some (.ref f1)) (G_l_has_out : FnOk P w K mg base CX0 2 f1 fd1 ["_law_item"] (spChk K hasOut)) : FnOk P w K mg base CX0 3 f fd ["_law_items"] (spNumB K) := by
  refine F.ok sc_l_numbered (fun vs H Q E h => ?_) (fun cdv A outer s H vs Q E hr h => ?_)
  · obtain ⟨x, ds, rfl, _⟩ := h
    rfl
  · obtain ⟨x, ds, rfl, hv, hlen, q⟩ := h
    refine ⟨_, (pss_cons (ps_set (i := 1) sc_l_numbered.nd rfl (.inl rfl) (pe_lst pa_nil)) 
        (pss_cons (ps_for PassesOwn.never rfl (pi_tup (pv 0)) (pg_name (i := 2) sc_l_numbered.nd rfl (.inl rfl)) 
          (pss_cons (ps_expr (pe_bm PySem.F.plainAttrs_list PySem.F.slot_list_append PySem.F.type_list_append mt_append (pv 1) (pa_cons (pe_tup (pa_cons (pv 2) (pa_cons pe_bl pa_nil))) pa_nil))) 
          (pss_one (ps_if (pt_val (pe_call G_l_has_out hr (by rfl) g_l_has_out F_l_has_out.kp b_l_has_out .nil pass0 (pa_cons (pv 2) pa_nil))) 
            (pss_one (ps_set (i := 1) sc_l_numbered.nd rfl (.inl rfl) (pe_op op_cat (pv 1) (pe_lc (own := [("_law_one", 3)]) (g := gName 3) rfl sc_l_numbered.nd (pi_tup (pe_ix ix_tup (pv 2) pe_int (fun _ _ => rfl))) (blkOk_by (N := ["_law_items", "_law_found", "_law_item", "_law_one"]) (sc := defScope s_l_numbered) (by decide +kernel)) (fun _ _ _ _ _ => pg_name (i := 3) sc_l_numbered.nd rfl (.inl rfl)) (fun _ _ _ _ _ => pts_nil) (fun _ _ _ _ _ => (pe_tup (pa_cons (pv 3) (pa_cons pe_bl pa_nil)))))))) pss_nil)))) 
        (pss_one (ps_ret (pv 1))))), ?_⟩
    have hgd := (GG.Good.tup (n := 59)).mp hv.dp.2
    obtain ⟨b, xs, rfl, hs, ha, hl, h1000, hget⟩ := hv.tup
    refine ⟨Nat.zero_le _, fun p hp => ?_⟩
    have hcut : ∀ i, numB ds = numB (ds.take i) ++ numB (ds.drop i) := fun i => by unfold numB; rw [← List.flatMap_append, List.take_append_drop]
    refine ⟨_, rfl, b, rfl, ⟨_, Same.seqT (same_upd hp) hs⟩, for_it (walk_tup (xs := xs)) (fun i σ H' => ∃ (pl : Addr) (zs : List V) (y2 y3 : Option V), σ = [some (.ref b), some (.ref pl), y2, y3] ∧ H pl = none ∧ H' pl = some (.lst zs) ∧ DpAll K (hide pl H') zs ((numB (ds.take i)).map prB) ∧ Same H (hide pl H')) ⟨p, [], _, _, rfl, hp, upd_same, .nil, same_hide (same_upd hp) hp⟩ (fun i σ H' _ h => by
      obtain ⟨pl, zs, y2, y3, _, _, _, _, s1⟩ := h
      exact Same.seqT (s1.trans hide_le) hs) ?_ ?_⟩
    · rintro i v σ _ H1 hi ⟨pl, zs, y2, y3, rfl, hpl, h1, hD, s1⟩ ⟨rfl, hx1⟩
      have hid : i < ds.length := by omega
      have hdi : ds[i]? = some ds[i] := List.getElem?_eq_getElem hid
      have htake : numB (ds.take (i + 1)) = numB (ds.take i) ++ numB1 ds[i] := by
        rw [List.take_add_one, hdi]
        exact numB_snoc _ _
      have hzl := dpAll_len hD
      rw [List.length_map] at hzl
      have hl1 : (numB (ds.take i)).length + (numB1 ds[i]).length ≤ 500 := by
        have := congrArg List.length (hcut (i + 1))
        rw [htake, List.length_append, List.length_append] at this
        omega
      rw [htake]
      have hdv := dpAll_at ha hx1 hdi
      have hgv := (hgd.2 _ (List.mem_of_getElem? hdi)).mono (m := 60) (by decide)
      generalize ds[i] = d at hdv hgv hl1 ⊢
      generalize numB (ds.take i) = L at hD hzl hl1 ⊢
      refine ⟨_, rfl, .inl ⟨rfl, _, .inl (.inl h1)⟩, _, rfl, (by show 2 ≤ sizeLine; decide), fun t ht => ?_⟩
      have htp : t ≠ pl := fun z => by rw [z, h1] at ht; cases ht
      have st := same_upd (o := .tup [v, V.bl false]) ht
      refine ⟨pl, zs, _, rfl, rfl, st _ _ h1, small1000 (by simp only [numB1, List.length_cons] at hl1; omega), ?_⟩
      have sh := hide_same (l := pl) st
      have dT : Dp K (hide pl (upd H1 t (.tup [v, V.bl false]))) (.ref t) (prB (d, false)) := .tup (.inl (.inl (by rw [hide_ne htp]; exact upd_same))) (.cons (dp_same (s1.trans sh) _ _ hdv) (.cons (.bl false) .nil))
      have hD2 := dpAll_app (dpAll_same sh _ _ hD) (.cons dT .nil)
      have s2 := s1.trans sh
      have e2 : (upd (upd H1 t (.tup [v, V.bl false])) pl (.lst (zs ++ [V.ref t]))) pl = some (.lst (zs ++ [V.ref t])) := upd_same
      rw [← hide_upd (o := .lst (zs ++ [V.ref t]))] at hD2 s2
      show tSeq _ _ _ _ (upd (upd H1 t (.tup [v, V.bl false])) pl (.lst (zs ++ [V.ref t])))
      generalize upd (upd H1 t (.tup [v, V.bl false])) pl (.lst (zs ++ [V.ref t])) = H2 at hD2 s2 e2 ⊢
      refine ⟨_, rfl, v, d, rfl, .inl ⟨dp_same (s2.trans hide_le) _ _ hdv, hgv⟩, fun H3 s3 => ⟨_, rfl, ite2 (fun hb => ?_) (fun hb => ?_)⟩⟩
      · obtain ⟨a0, m0, os, rfl, _, _⟩ := out_form hb
        have hn1 : numB1 (.tuple [a0, m0, .tuple os]) = (.tuple [a0, m0, .tuple os], false) :: os.map fun z => (z, true) := by
          unfold numB1
          rw [if_pos hb]
          rfl
        rw [hn1] at hl1 ⊢
        rw [List.length_cons, List.length_map] at hl1
        have s3H : Same H H3 := (s2.trans hide_le).trans s3
        obtain ⟨bt, v0, v1, v2, rfl, hbt, _, _, hd2⟩ := dp3 (dp_same s3H _ _ hdv)
        obtain ⟨bo, xo, rfl, hxo, hao⟩ : ∃ (bo : Addr) (xo : List V), v2 = .ref bo ∧ SqT K H3 bo xo ∧ DpAll K H3 xo os := by
          cases hd2 with
          | tup h1 h2 => exact ⟨_, _, rfl, h1, h2⟩
        have hol := dpAll_len hao
        have e3 := s3 _ _ e2
        refine ⟨_, rfl, _, rfl, bt, [v0, v1, .ref bo], _, _, rfl, rfl, hbt, atI_nat (j := 2) rfl, bo, rfl, ⟨_, hxo⟩, fun D hDn => lc_it (walk_tup (xs := xo)) (fun j H' => Same H3 (hide D H') ∧ ∃ acc : List V, H' D = some (.lst acc) ∧ DpAll K (hide D H') acc ((os.take j).map fun z => prB (z, true))) ⟨same_hide (same_upd hDn) hDn, [], upd_same, .nil⟩ (fun j H' _ h => Same.seqT (h.1.trans hide_le) hxo) ?_ ?_⟩
        · rintro j y _ H4 hj ⟨s4, acc, eD, dA⟩ ⟨rfl, hy⟩
          have hjo : j < os.length := by omega
          have hoj : os[j]? = some os[j] := List.getElem?_eq_getElem hjo
          refine ⟨rfl, yes_then ⟨_, rfl, (by show 2 ≤ sizeLine; decide), fun t4 ht4 => ?_⟩⟩
          have ht4D : t4 ≠ D := fun z => by rw [z, eD] at ht4; cases ht4
          have st4 := same_upd (o := .tup [y, V.bl true]) ht4
          have sh4 := hide_same (l := D) st4
          have hal := dpAll_len dA
          rw [List.length_map, List.length_take] at hal
          refine ⟨acc, st4 _ _ eD, small1000 (by omega), ?_, acc ++ [.ref t4], upd_same, ?_⟩
          · rw [hide_upd]
            exact s4.trans sh4
          · rw [hide_upd, List.take_add_one, hoj]
            show DpAll K _ _ ((os.take j ++ [os[j]]).map fun z => prB (z, true))
            rw [List.map_append]
            exact dpAll_app (dpAll_same sh4 _ _ dA) (.cons (.tup (.inl (.inl (by rw [hide_ne ht4D]; exact upd_same))) (.cons (dp_same (s4.trans sh4) _ _ (dpAll_at hao hy hoj)) (.cons (.bl true) .nil))) .nil)
        · rintro H4 ⟨s4, acc, eD, dA⟩
          rw [List.take_of_length_le (by omega)] at dA
          have hal := dpAll_len dA
          rw [List.length_map] at hal
          have s34 : Same H3 H4 := s4.trans hide_le
          have sH4 := s3H.trans s34
          refine ⟨pl, D, _, _, rfl, rfl, s34 _ _ e3, eD, Nat.le_of_lt (small1000 (by rw [List.length_append, List.length_singleton]; omega)), fun t5 ht5 => ?_⟩
          have h5 : H t5 = none := sH4.free ht5
          have s45 : Same H4 (hide t5 (upd H4 t5 (.lst (zs ++ [V.ref t] ++ acc)))) := by
            rw [hide_upd]
            exact same_hide (Same.refl _) ht5
          refine ⟨t5, _, _, _, rfl, h5, upd_same, ?_, sH4.trans s45⟩
          have := dpAll_app (dpAll_same (hide_le.trans (s3.trans (s34.trans s45))) _ _ hD2) (dpAll_same (hide_le.trans s45) _ _ dA)
          have ea : ∀ (A : List PyData) (b : PyData) (C : List PyData), A ++ b :: C = A ++ [b] ++ C := fun A b C => by rw [List.append_assoc]; rfl
          rw [List.map_append, List.map_cons, List.map_map, ea]
          exact this
      · have hn1 : numB1 d = [(d, false)] := by
          unfold numB1
          rw [if_neg hb]
        rw [hn1, List.map_append]
        exact ⟨pl, _, _, _, rfl, hpl, s3 _ _ e2, dpAll_same (hide_same s3) _ _ hD2, s2.trans (hide_same s3)⟩
    · rintro σ H1 ⟨pl, zs, y2, y3, rfl, hpl, h1, hD, s1⟩
      rw [List.take_of_length_le (by omega)] at hD
      exact ⟨_, rfl, q H1 pl zs (s1.trans hide_le) hpl h1 (dpAll_same hide_le _ _ hD)⟩
end
/-- what a number is refused for, by its form -/
def wrongB (p : PyData × Bool) : Bool := if p.2 = true then !isItemP p.1 || decide (headW p.1 ∈ (["look", "hold", "try", "ask"] : List Str)) else if hasOut p.1 = true then decide (4 < (outOf p.1).length) else !isItemP p.1
def findW : Nat → List (PyData × Bool) → Option Nat
  | _, [] => none
  | m, p :: r => if wrongB p = true then some m else findW (m + 1) r
theorem findW_app : ∀ (A B : List (PyData × Bool)) (m : Nat), findW m (A ++ B) = (match findW m A with | some n => some n | none => findW (m + A.length) B)
  | [], B, m => rfl
  | p :: r, B, m => by
    show (if wrongB p = true then some m else findW (m + 1) (r ++ B)) = (match (if wrongB p = true then some m else findW (m + 1) r) with | some n => some n | none => findW (m + (r.length + 1)) B)
    by_cases h : wrongB p = true
    · rw [if_pos h, if_pos h]
    · rw [if_neg h, if_neg h, findW_app r B (m + 1), show m + (r.length + 1) = m + 1 + r.length by omega]
theorem eqv_ask {a : PyData} (h : PyData.eqv a (.str "ask") = true) : a = .str "ask" := by
  cases a with
  | str z =>
    have h : (z == ("ask" : Str)) = true := h
    rw [eq_of_beq h]
  | _ => simp [PyData.eqv] at h
theorem head_out {d : PyData} : isHeadP d = (hasOut d && decide ((outOf d).length ≤ 4)) := by
  match d with
  | .tuple [a, m, .tuple os] =>
    have e : isWordP wAsk a = PyData.eqv a (.str "ask") := by
      cases h : PyData.eqv a (.str "ask")
      · cases h2 : isWordP wAsk a
        · rfl
        · obtain ⟨z, rfl⟩ := word_str h2
          obtain ⟨v, hv, e⟩ := List.any_eq_true.mp (show wAsk.any (· == z) = true from h2)
          rw [List.mem_singleton.mp hv] at e
          rw [← beq_iff_eq.mp e] at h
          exact absurd h (by decide +kernel)
      · rw [eqv_ask h]
        decide +kernel
    show (isWordP wAsk a && (isNameP m && decide (os.length ≤ 4))) = ((PyData.eqv a (.str "ask") && isNameP m) && decide (os.length ≤ 4))
    rw [e, Bool.and_assoc]
  | .none => rfl
  | .bool _ => rfl
  | .int _ => rfl
  | .str _ => rfl
  | .list _ => rfl
  | .dict _ => rfl
  | .tuple [] => rfl
  | .tuple [_] => rfl
  | .tuple [_, _] => rfl
  | .tuple [a, m, .none] => show (isWordP wAsk a && (isNameP m && false)) = false; rw [Bool.and_false, Bool.and_false]
  | .tuple [a, m, .bool _] => show (isWordP wAsk a && (isNameP m && false)) = false; rw [Bool.and_false, Bool.and_false]
  | .tuple [a, m, .int _] => show (isWordP wAsk a && (isNameP m && false)) = false; rw [Bool.and_false, Bool.and_false]
  | .tuple [a, m, .str _] => show (isWordP wAsk a && (isNameP m && false)) = false; rw [Bool.and_false, Bool.and_false]
  | .tuple [a, m, .list _] => show (isWordP wAsk a && (isNameP m && false)) = false; rw [Bool.and_false, Bool.and_false]
  | .tuple [a, m, .dict _] => show (isWordP wAsk a && (isNameP m && false)) = false; rw [Bool.and_false, Bool.and_false]
  | .tuple (a :: b :: c :: e :: r) => cases c <;> rfl
theorem way_out_of {d : PyData} (h : hasOut d = true) : way d = outOf d := by
  obtain ⟨a, m, os, rfl, _, _⟩ := out_form h
  rfl
theorem wrong_in (z : PyData) : wrongB (z, true) = !isWayItemP z := by
  show (!isItemP z || decide (headW z ∈ (["look", "hold", "try", "ask"] : List Str))) = _
  cases hw : isWayItemP z
  · cases hi : isItemP z
    · rfl
    · unfold isItemP at hi
      rw [hw, Bool.false_or, Bool.or_eq_true] at hi
      rcases hi with hi | hi
      · obtain ⟨w, rfl, hv⟩ := open_item hi
        have : headW (.tuple [.str w]) ∈ (["look", "hold", "try", "ask"] : List Str) := by
          show w ∈ _
          simp only [List.mem_cons, List.not_mem_nil, or_false] at hv ⊢
          rcases hv with rfl | rfl | rfl <;> simp
        show (!true || decide (headW (.tuple [.str w]) ∈ _)) = _
        rw [decide_eq_true this]
        rfl
      · have hh : isHeadP z = true := by
          cases h : isHeadP z
          · rw [ask_head_of h] at hi
            cases hi
          · rfl
        obtain ⟨m, os, rfl, _⟩ := ask_form hh
        have : headW (.tuple [.str "ask", m, .tuple os]) ∈ (["look", "hold", "try", "ask"] : List Str) := by
          show ("ask" : Str) ∈ _
          simp
        rw [decide_eq_true this]
        rfl
  · obtain ⟨w, r, rfl, hv, _⟩ := way_item hw
    have hi : isItemP (.tuple (.str w :: r)) = true := by
      unfold isItemP
      rw [hw, Bool.true_or, Bool.or_true]
    have : ¬ headW (.tuple (.str w :: r)) ∈ (["look", "hold", "try", "ask"] : List Str) := by
      show ¬ w ∈ _
      simp only [List.mem_cons, List.not_mem_nil, or_false] at hv ⊢
      rcases hv with rfl | rfl | rfl | rfl | rfl | rfl | rfl | rfl <;> decide +kernel
    rw [hi]
    show (!true || decide (headW (.tuple (.str w :: r)) ∈ _)) = _
    rw [decide_eq_false this]
    rfl
theorem findW_in : ∀ (os : List PyData) (m : Nat), findW m (os.map fun z => (z, true)) = (wayNo os).map (m + ·)
  | [], _ => rfl
  | z :: r, m => by
    show (if wrongB (z, true) = true then some m else findW (m + 1) (r.map fun z => (z, true))) = Option.map (m + ·) (if isWayItemP z = true then (wayNo r).map (· + 1) else some 0)
    rw [wrong_in, findW_in r (m + 1)]
    cases isWayItemP z
    · rfl
    · show Option.map (m + 1 + ·) (wayNo r) = Option.map (m + ·) (Option.map (· + 1) (wayNo r))
      rw [Option.map_map]
      congr 1
      funext k
      show m + 1 + k = m + (k + 1)
      omega
theorem findW_form : ∀ (ds : List PyData) (m : Nat), findW m (numB ds) = formB m ds
  | [], _ => rfl
  | d :: r, m => by
    have e : numB (d :: r) = numB1 d ++ numB r := rfl
    have ih := findW_form r
    rw [e, findW_app]
    show _ = (if isHeadP d = true then (match wayNo (way d) with | some j => some (m + 1 + j) | none => formB (m + 1 + (way d).length) r) else if isItemP d = true then formB (m + 1) r else some m)
    cases ho : hasOut d
    · have hn : numB1 d = [(d, false)] := by
        unfold numB1
        rw [ho]
        rfl
      have hw : wrongB (d, false) = !isItemP d := by
        show (if hasOut d = true then _ else !isItemP d) = _
        rw [ho]
        rfl
      rw [hn, head_out, ho]
      show (match (if wrongB (d, false) = true then some m else none) with | some n => some n | none => findW (m + 1) (numB r)) = _
      rw [hw, ih]
      cases isItemP d <;> rfl
    · have hn : numB1 d = (d, false) :: (outOf d).map fun z => (z, true) := by
        unfold numB1
        rw [ho]
        rfl
      have hw : wrongB (d, false) = decide (4 < (outOf d).length) := by
        show (if hasOut d = true then decide (4 < (outOf d).length) else _) = _
        rw [ho]
        rfl
      rw [hn, head_out, ho, Bool.true_and]
      show (match (if wrongB (d, false) = true then some m else findW (m + 1) ((outOf d).map fun z => (z, true))) with | some n => some n | none => findW (m + (((outOf d).map fun z => (z, true)).length + 1)) (numB r)) = _
      rw [hw, findW_in, List.length_map, ih, way_out_of ho]
      by_cases h4 : 4 < (outOf d).length
      · rw [if_pos (decide_eq_true h4), if_neg (by rw [decide_eq_true_eq]; omega)]
        have hh : isHeadP d = false := by rw [head_out, ho, decide_eq_false (by omega)]; rfl
        have hi : isItemP d = false := by
          obtain ⟨a, m2, os, rfl, _, _⟩ := out_form ho
          unfold isItemP isWayItemP
          rw [ask_head_of hh]
          cases a <;> rfl
        rw [hi]
        rfl
      · rw [if_neg (by rw [decide_eq_true_eq]; exact h4), if_pos (decide_eq_true (by omega))]
        cases wayNo (outOf d) with
        | none =>
          show formB (m + ((outOf d).length + 1)) r = formB (m + 1 + (outOf d).length) r
          rw [show m + ((outOf d).length + 1) = m + 1 + (outOf d).length by omega]
        | some j => rfl
theorem numB_len {ds : List PyData} (h : ∀ d ∈ ds, itOk d) : (numB ds).length = (spread ds).length := by
  induction ds with
  | nil => rfl
  | cons d r ih =>
    have e : numB (d :: r) = numB1 d ++ numB r := rfl
    rw [e, spread_cons, List.length_append, List.length_cons, List.length_append, ih fun d hd => h d (List.mem_cons_of_mem _ hd)]
    rcases h d List.mem_cons_self with ⟨h1, _⟩ | ⟨h1, h2, hw⟩
    · rw [head_out, Bool.and_eq_true] at h1
      unfold numB1
      rw [if_pos h1.1, way_out_of h1.1, List.length_cons, List.length_map]
      omega
    · have ho : hasOut d = false := by
        cases ho : hasOut d
        · rfl
        · exfalso
          rw [head_out, ho, Bool.true_and, decide_eq_false_iff_not] at h1
          rw [way_out_of ho] at hw
          rw [hw] at h1
          exact h1 (by decide)
      unfold numB1
      rw [ho, hw]
      show 1 + _ = _
      simp
      omega
end K05

/-! + of a program's own objects, from either side, and +=. -/
namespace PySem.W
open PySem PySem.Calls PyProof.Rows Builtin
section
variable {prog : Program} {w : World} {A : Around} {E : Value → Shared → Prop} {s : Shared} {K : Frag} {x C f g : Addr} {ox : Obj} {od : Option Obj} {a b : Value} {T : String} {op : Operator}
theorem mroFirst (hc : selfFirst K C = true) : ∃ cd rest, clsIn K C = some cd ∧ cd.mro = .ref C :: rest := by
  unfold selfFirst at hc
  cases q : clsIn K C with
  | none => rw [q] at hc; cases hc
  | some cd =>
    rw [q] at hc
    cases m : cd.mro with
    | nil =>
      have hc2 : (cd.mro.head? == some (.ref C)) = true := hc
      rw [m] at hc2
      cases hc2
    | cons a r =>
      have hc2 : (cd.mro.head? == some (.ref C)) = true := hc
      rw [m] at hc2
      have e : some a = some (Value.ref C) := beq_iff_eq.mp hc2
      cases e
      exact ⟨cd, r, rfl, m⟩
/-- own + b, b of a built-in type that fills no number slot -/
theorem binL_own {Q : Value → Shared → Prop} (X : K.In s.heap) (I : InstAt s.heap x ox C od) (hb : Looks (model prog w) s.heap (typeOf b) (.type T)) (fill : fillsNumberSlot (.type T) op.info.2 = pure false) (hc : selfFirst K C = true)
    (hs : findIn K (.ref C) (PySem.dunder op.info.2) = some (some (.ref f))) (hf : isFn K (.ref f) = true) (z : wpAny (model prog w) A (call (.ref f) [.ref x, b]) (CmpBack Q) E s) : wpAny (model prog w) A (binaryOp op (.ref x) b) Q E s := by
  obtain ⟨cd, rest, e1, e2⟩ := mroFirst hc
  unfold binaryOp
  refine wpAny_holding (wpAny_bind ?_)
  unfold binaryOp1
  refine wpAny_bind (I.type.here (wpAny_bind (hb.here (wpAny_bind ((fills_K X e1 e2 hs).here ?_)))))
  have ne : (Value.ref C == Value.type T) = false := rfl
  simp only [ne, Bool.false_eq_true, if_false]
  refine wpAny_bind (wpAny_of_eq fill ?_)
  simp only [Bool.and_false, Bool.false_eq_true, if_false, Bool.false_and]
  refine wpAny_bind (wpAny_pure ?_)
  simp only [Bool.false_eq_true, if_false, if_true]
  refine wpAny_bind (m := tryMethod (.ref x) _ b) ?_
  unfold tryMethod
  refine wpAny_bind (special_fn X I hs (beq_iff_eq.mp hf) (wpAny_mono z (fun v s2 hv => ?_) fun _ _ y => y))
  cases v <;> first | exact hv.elim | exact wpAny_pure (wpAny_pure (wpAny_pure hv))
/-- own + b, b of a built-in type that fills the slot, where the own method raises -/
theorem binL_ownX {Q : Value → Shared → Prop} {ro : Option Value} (X : K.In s.heap) (I : InstAt s.heap x ox C od) (hb : Looks (model prog w) s.heap (typeOf b) (.type T)) (fill : fillsNumberSlot (.type T) op.info.2 = pure true) (sub : subIn K (.type T) (.ref C) = some false)
    (rad : typeLookup (.type T) (PySem.dunderR op.info.2) = pure ro) (hc : selfFirst K C = true) (hs : findIn K (.ref C) (PySem.dunder op.info.2) = some (some (.ref f))) (hr : findIn K (.ref C) (PySem.dunderR op.info.2) = some (some (.ref g))) (hf : isFn K (.ref f) = true)
    (z : wpAny (model prog w) A (call (.ref f) [.ref x, b]) (fun _ _ => False) E s) : wpAny (model prog w) A (binaryOp op (.ref x) b) Q E s := by
  obtain ⟨cd, rest, e1, e2⟩ := mroFirst hc
  unfold binaryOp
  refine wpAny_holding (wpAny_bind ?_)
  unfold binaryOp1
  refine wpAny_bind (I.type.here (wpAny_bind (hb.here (wpAny_bind ((fills_K X e1 e2 hs).here ?_)))))
  have ne : (Value.ref C == Value.type T) = false := rfl
  simp only [ne, Bool.false_eq_true, if_false]
  refine wpAny_bind (wpAny_of_eq fill ?_)
  simp only [Bool.and_self, if_true]
  refine wpAny_bind ((looks_subIn X sub).here ?_)
  simp only [Bool.false_eq_true, if_false, Bool.not_false]
  have nip : Looks (model prog w) s.heap (numberSlotInPython (.ref C) op.info.2) true := by
    intro A Q E s k q
    unfold numberSlotInPython
    refine wpAny_bind (looks_findIn X hs A _ E s k (wpAny_bind (wpAny_pure (wpAny_bind (looks_findIn X hr A _ E s k (wpAny_bind (wpAny_pure ?_)))))))
    rw [if_pos (show (true || true) = true from rfl)]
    exact wpAny_pure q
  have nit : numberSlotInPython (.type T) op.info.2 = pure false := rfl
  refine wpAny_bind (nip.here ?_)
  simp only [if_true]
  refine wpAny_bind (wpAny_of_eq nit ?_)
  simp only [Bool.not_false, if_true]
  refine wpAny_bind (wpAny_of_eq rad ?_)
  refine wpAny_bind (m := tryMethod (.ref x) _ b) ?_
  unfold tryMethod
  exact wpAny_bind (special_fn X I hs (beq_iff_eq.mp hf) (wpAny_mono z (fun v s2 hv => hv.elim) fun _ _ y => y))
/-- a + own, a of such a type -/
theorem binR_own {Q : Value → Shared → Prop} (X : K.In s.heap) (I : InstAt s.heap x ox C od) (ha : Looks (model prog w) s.heap (typeOf a) (.type T)) (fill : fillsNumberSlot (.type T) op.info.2 = pure false) (hc : selfFirst K C = true)
    (hs : findIn K (.ref C) (PySem.dunder op.info.2) = some (some (.ref f))) (hg : findIn K (.ref C) (PySem.dunderR op.info.2) = some (some (.ref g))) (hf : isFn K (.ref g) = true) (z : wpAny (model prog w) A (call (.ref g) [.ref x, a]) (CmpBack Q) E s) : wpAny (model prog w) A (binaryOp op a (.ref x)) Q E s := by
  obtain ⟨cd, rest, e1, e2⟩ := mroFirst hc
  unfold binaryOp
  refine wpAny_holding (wpAny_bind ?_)
  unfold binaryOp1
  refine wpAny_bind (ha.here (wpAny_bind (I.type.here (wpAny_bind (wpAny_of_eq fill ?_)))))
  have ne : (Value.type T == Value.ref C) = false := rfl
  simp only [ne, Bool.false_eq_true, if_false]
  refine wpAny_bind ((fills_K X e1 e2 hs).here ?_)
  simp only [Bool.and_false, Bool.false_eq_true, if_false, Bool.false_and]
  refine wpAny_bind (wpAny_pure ?_)
  simp only [Bool.false_eq_true, if_false, if_true, Bool.not_false, Bool.and_self]
  refine wpAny_bind (m := tryMethod (.ref x) _ a) ?_
  unfold tryMethod
  refine wpAny_bind (special_fn X I hg (beq_iff_eq.mp hf) (wpAny_mono z (fun v s2 hv => ?_) fun _ _ y => y))
  cases v <;> first | exact hv.elim | exact wpAny_pure (wpAny_bind (wpAny_rule (wpAny_pure (wpAny_pure hv))))
/-- own += b -/
theorem ipL_own {Q : Value → Shared → Prop} (X : K.In s.heap) (I : InstAt s.heap x ox C od) (hc : selfFirst K C = true)
    (hs : findIn K (.ref C) (PySem.dunderI op.info.2) = some (some (.ref f))) (hf : isFn K (.ref f) = true) (z : wpAny (model prog w) A (call (.ref f) [.ref x, b]) (CmpBack Q) E s) : wpAny (model prog w) A (inplaceOp op (.ref x) b) Q E s := by
  obtain ⟨cd, rest, e1, e2⟩ := mroFirst hc
  unfold inplaceOp
  refine wpAny_holding (wpAny_bind (I.type.here ?_))
  have fl : Looks (model prog w) s.heap (fillsInplaceSlot (.ref C) op.info.2 (op == .Add)) true := by
    intro A Q E s k q
    unfold fillsInplaceSlot
    refine wpAny_bind ((looks_clsIn X e1).andThen (f := fun cd => pure cd.mro) .now A _ E s k ?_)
    rw [e2, List.anyM_cons]
    refine wpAny_bind (wpAny_bind (looks_findIn X hs A _ E s k ?_))
    dsimp only
    rw [if_pos (show (!ownNameWrapper (.ref f) (PySem.dunderI op.info.2)) = true from rfl)]
    refine wpAny_pure ?_
    rw [if_pos rfl]
    exact wpAny_pure q
  refine wpAny_bind (fl.here ?_)
  simp only [if_true]
  refine wpAny_bind (m := tryMethod (.ref x) _ b) ?_
  unfold tryMethod
  refine wpAny_bind (special_fn X I hs (beq_iff_eq.mp hf) (wpAny_mono z (fun v s2 hv => ?_) fun _ _ y => y))
  cases v <;> first | exact hv.elim | exact wpAny_pure (wpAny_bind (wpAny_rule (wpAny_pure hv)))
end
end PySem.W

/-! + and += of own objects, over the layer; how often data stand in a list. -/
namespace OO
open PySem PySem.Spec PyProof.Rows L2 TL GG
theorem du_add : PySem.dunder "add" = ("__add__" : Str) := by decide +kernel
theorem du_radd : PySem.dunderR "add" = ("__radd__" : Str) := by decide +kernel
theorem du_iadd : PySem.dunderI "add" = ("__iadd__" : Str) := by decide +kernel
theorem fill_tup : fillsNumberSlot (.type "tuple") "add" = pure false := PyProof.Rows.fillsNumberSlot_seq (id := "tuple.__add__") (r := none) (by rw [typeLookup_type, builtinLookup_eq_fast]; kernel_rfl) (by decide +kernel) (by rw [typeLookup_type, builtinLookup_eq_fast]; kernel_rfl) rfl
theorem fill_lst : fillsNumberSlot (.type "list") "add" = pure false := PyProof.Rows.fillsNumberSlot_seq (id := "list.__add__") (r := none) (by rw [typeLookup_type, builtinLookup_eq_fast]; kernel_rfl) (by decide +kernel) (by rw [typeLookup_type, builtinLookup_eq_fast]; kernel_rfl) rfl
theorem fill_str : fillsNumberSlot (.type "str") "add" = pure false := PyProof.Rows.fillsNumberSlot_seq (id := "str.__add__") (r := none) (by rw [typeLookup_type, builtinLookup_eq_fast]; kernel_rfl) (by decide +kernel) (by rw [typeLookup_type, builtinLookup_eq_fast]; kernel_rfl) rfl
theorem fill_none : fillsNumberSlot (.type "NoneType") "add" = pure false := by
  have h1 : typeLookup (.type "NoneType") (dunder "add") = pure none := by rw [typeLookup_type, builtinLookup_eq_fast]; kernel_rfl
  have h2 : typeLookup (.type "NoneType") (dunderR "add") = pure none := by rw [typeLookup_type, builtinLookup_eq_fast]; kernel_rfl
  simp only [fillsNumberSlot, h1, h2, pure_bind]
  rfl
theorem fill_dict : fillsNumberSlot (.type "dict") "add" = pure false := by
  have h1 : typeLookup (.type "dict") (dunder "add") = pure none := by rw [typeLookup_type, builtinLookup_eq_fast]; kernel_rfl
  have h2 : typeLookup (.type "dict") (dunderR "add") = pure none := by rw [typeLookup_type, builtinLookup_eq_fast]; kernel_rfl
  simp only [fillsNumberSlot, h1, h2, pure_bind]
  rfl
theorem rad_int : typeLookup (.type "int") (dunderR "add") = pure (some (.builtin "int.__radd__")) := by rw [typeLookup_type, builtinLookup_eq_fast]; kernel_rfl
theorem fill_int : fillsNumberSlot (.type "int") "add" = pure true := by
  have h1 : typeLookup (.type "int") (dunder "add") = pure (some (.builtin "int.__add__")) := by rw [typeLookup_type, builtinLookup_eq_fast]; kernel_rfl
  have h3 : isSeqSlot (some (.builtin "int.__add__")) = false := by decide +kernel
  simp only [fillsNumberSlot, h1, rad_int, pure_bind, h3]
  rfl
/-- a type of the model that + is not filled by -/
def NoAdd (t : Value) : Prop := ∃ T : String, t = .type T ∧ fillsNumberSlot (.type T) "add" = pure false
/-- what is known of an own class with + -/
structure AddC (K : PySem.W.Frag) (C gl gr gi : Addr) : Prop where
  first : PySem.W.selfFirst K C = true
  l : PySem.W.findIn K (.ref C) "__add__" = some (some (.ref gl))
  fl : PySem.W.isFn K (.ref gl) = true
  r : PySem.W.findIn K (.ref C) "__radd__" = some (some (.ref gr))
  fr : PySem.W.isFn K (.ref gr) = true
  i : PySem.W.findIn K (.ref C) "__iadd__" = some (some (.ref gi))
  fi : PySem.W.isFn K (.ref gi) = true
  noint : PySem.W.subIn K (.type "int") (.ref C) = some false
section
variable {X : Cx} {CX : CXT} {k : Nat} {C gl gr gi : Addr} {sp : Sp} {E : L2.St → XK} {a b : Expr} {ta tb : TE} {pos : Pos}
/-- x + y, x an instance of the class at C; where the own method raises, y may be an int too -/
def tAddL (K : PySem.W.Frag) (C : Addr) (sp : Sp) (E : L2.St → XK) (ta tb : TE) : TE := fun σ H Q => ta σ H fun x H1 => tb σ H1 fun y H2 => ∃ (p dx : Addr) (fs : List (Str × V)), x = .ref p ∧ H2 p = some (.ins C dx fs) ∧
  ((∃ t, TyX K H2 y t ∧ (t = .ref C ∨ NoAdd t) ∧ sp [.ref p, y] H2 (fun v H3 => (∃ q, v = .ref q) ∧ Q v H3) (E σ)) ∨ (TyX K H2 y (.type "int") ∧ sp [.ref p, y] H2 (fun _ _ => False) (E σ)))
theorem back_of {pins : List (Addr × Obj)} {σ : L2.St} {Q : VK} {v : Value} {s : Shared} (h : EP X pins σ (fun v H3 => (∃ q, v = .ref q) ∧ Q v H3) v s) : PySem.W.CmpBack (EP X pins σ Q) v s := by
  obtain ⟨x, H', I, r, ⟨q, rfl⟩, z⟩ := h
  cases (show v = Value.ref q from r)
  exact ⟨.ref q, H', I, rfl, z⟩
theorem pe_addL (c : AddC X.K C gl gr gi) (F : FnR X.prog X.w X.K X.mg X.base CX k gl sp) (hr : Room k X.A) (hx : ∀ σ, PassesAt CX X σ (E σ)) (ha : PE X a ta) (hb : PE X b tb) : PE X (.BinOp a .Add b pos) (tAddL X.K C sp E ta tb) := by
  refine ⟨fun pins s σ H Q I h => ?_⟩
  refine wpAny_BinOp (binT ha hb I (R := fun x y H2 => ∃ (p dx : Addr) (fs : List (Str × V)), x = .ref p ∧ H2 p = some (.ins C dx fs) ∧ ((∃ t, TyX X.K H2 y t ∧ (t = .ref C ∨ NoAdd t) ∧ sp [.ref p, y] H2 (fun v H3 => (∃ q, v = .ref q) ∧ Q v H3) (E σ)) ∨ (TyX X.K H2 y (.type "int") ∧ sp [.ref p, y] H2 (fun _ _ => False) (E σ)))) h fun v u s2 x y H2 I2 rx ry q => ?_)
  obtain ⟨p, dx, fs, rfl, hp, q⟩ := q
  cases (show v = Value.ref p from rx)
  obtain ⟨mA, O, _⟩ := ins_get I2.hok hp
  obtain ⟨od, J, _⟩ := O.look
  obtain ⟨m, fr⟩ := I2.fr
  have run : ∀ {Q' : VK}, sp [.ref p, y] H2 Q' (E σ) → wpAny (model X.prog X.w) X.A (call (.ref gl) [.ref p, u]) (EP X pins σ Q') X.xe s2 := fun z => wpAny_call (run_fnRS (us := [.ref p, u]) (vs := [.ref p, y]) F hr (hx σ) I2 (.cons rfl (.cons ry .nil)) z)
  rcases q with ⟨t, ty, ht, q⟩ | ⟨ty, q⟩
  · have z := wpAny_mono (run q) (fun v s' h => back_of h) fun _ _ y => y
    rcases ht with rfl | ⟨T, rfl, fill⟩
    · exact PySem.W.binop_K (op := .Add) fr I2.ok.mod.kin J (looksY I2 ry ty) c.first (by show PySem.W.findIn X.K (.ref C) (PySem.dunder "add") = _; rw [du_add]; exact c.l) c.fl z
    · exact PySem.W.binL_own (op := .Add) I2.kIn J (looksY I2 ry ty) fill c.first (by show PySem.W.findIn X.K (.ref C) (PySem.dunder "add") = _; rw [du_add]; exact c.l) c.fl z
  · exact PySem.W.binL_ownX (op := .Add) I2.kIn J (looksY I2 ry ty) fill_int c.noint rad_int c.first (by show PySem.W.findIn X.K (.ref C) (PySem.dunder "add") = _; rw [du_add]; exact c.l) (by show PySem.W.findIn X.K (.ref C) (PySem.dunderR "add") = _; rw [du_radd]; exact c.r) c.fl
      (wpAny_mono (run q) (fun v s' h => by obtain ⟨_, _, _, _, z⟩ := h; exact z) fun _ _ y => y)
/-- y + x, x an instance of the class at C, y of a type that + is not filled by -/
def tAddR (K : PySem.W.Frag) (C : Addr) (sp : Sp) (E : L2.St → XK) (ta tb : TE) : TE := fun σ H Q => ta σ H fun y H1 => tb σ H1 fun x H2 => ∃ (p dx : Addr) (fs : List (Str × V)) (t : Value), x = .ref p ∧ H2 p = some (.ins C dx fs) ∧ TyX K H2 y t ∧ NoAdd t ∧ sp [.ref p, y] H2 (fun v H3 => (∃ q, v = .ref q) ∧ Q v H3) (E σ)
theorem pe_addR (c : AddC X.K C gl gr gi) (F : FnR X.prog X.w X.K X.mg X.base CX k gr sp) (hr : Room k X.A) (hx : ∀ σ, PassesAt CX X σ (E σ)) (ha : PE X a ta) (hb : PE X b tb) : PE X (.BinOp a .Add b pos) (tAddR X.K C sp E ta tb) := by
  refine ⟨fun pins s σ H Q I h => ?_⟩
  refine wpAny_BinOp (binT ha hb I (R := fun y x H2 => ∃ (p dx : Addr) (fs : List (Str × V)) (t : Value), x = .ref p ∧ H2 p = some (.ins C dx fs) ∧ TyX X.K H2 y t ∧ NoAdd t ∧ sp [.ref p, y] H2 (fun v H3 => (∃ q, v = .ref q) ∧ Q v H3) (E σ)) h fun u v s2 y x H2 I2 ry rx q => ?_)
  obtain ⟨p, dx, fs, t, rfl, hp, ty, ⟨T, rfl, fill⟩, q⟩ := q
  cases (show v = Value.ref p from rx)
  obtain ⟨mA, O, _⟩ := ins_get I2.hok hp
  obtain ⟨od, J, _⟩ := O.look
  refine PySem.W.binR_own (op := .Add) I2.kIn J (looksY I2 ry ty) fill c.first (by show PySem.W.findIn X.K (.ref C) (PySem.dunder "add") = _; rw [du_add]; exact c.l) (by show PySem.W.findIn X.K (.ref C) (PySem.dunderR "add") = _; rw [du_radd]; exact c.r) c.fr ?_
  exact wpAny_mono (wpAny_call (run_fnRS (us := [.ref p, u]) (vs := [.ref p, y]) F hr (hx σ) I2 (.cons rfl (.cons ry .nil)) q)) (fun v s' h => back_of h) fun _ _ y => y
/-- x += y, x such an instance -/
def tIpO (C : Addr) (sp : Sp) : TIp := fun x y H Q => ∃ (p dx : Addr) (fs : List (Str × V)), x = .ref p ∧ H p = some (.ins C dx fs) ∧ sp [.ref p, y] H (fun v H3 => (∃ q, v = .ref q) ∧ Q v H3) E0
theorem ip_addO (c : AddC X.K C gl gr gi) (F : FnR X.prog X.w X.K X.mg X.base CX k gi sp) (hr : Room k X.A) (hx : Passes CX X E0) : PIp X .Add (tIpO C sp) := by
  intro pins s σ H x y v u Q I rx ry h
  obtain ⟨p, dx, fs, rfl, hp, q⟩ := h
  cases (show v = Value.ref p from rx)
  obtain ⟨mA, O, _⟩ := ins_get I.hok hp
  obtain ⟨od, J, _⟩ := O.look
  refine PySem.W.ipL_own (op := .Add) I.kIn J c.first (by show PySem.W.findIn X.K (.ref C) (PySem.dunderI "add") = _; rw [du_iadd]; exact c.i) c.fi ?_
  exact wpAny_mono (wpAny_call (run_fnRS (E := fun _ => E0) (us := [.ref p, u]) (vs := [.ref p, y]) F hr (pat hx σ) I (.cons rfl (.cons ry .nil)) q)) (fun v s' h => back_of h) fun _ _ y => y
/-- xs.count(z), data -/
def rCntD (K : PySem.W.Frag) : V → List V → Hp → VK → Prop := fun x xs H Q => ∃ (p : Addr) (ds : List PyData) (y : V) (d : PyData), x = .ref p ∧ xs = [y] ∧ Dp K H (.ref p) (.list ds) ∧ Dp K H y d ∧ PyData.plainAll ds = true ∧ d.plain = true ∧ d.depth ≤ 60 ∧ Q (.int (ds.countP fun z => PyData.eqv z d : Nat)) H
theorem mt_countD (hu : X.A.units + 65 < cLine) : MtR X "list.count" (rCntD X.K) := by
  intro pins s σ H x xs v us Q I rx rxs h
  obtain ⟨p, ds, y, d, rfl, rfl, hl, hy, pl, pd, hd, q⟩ := h
  cases rx
  obtain ⟨u, rfl, ru⟩ := rxs.one
  obtain ⟨bs, r1⟩ := Dp.reads I d y u hy ru
  cases hl with
  | lst hs ha =>
    obtain ⟨its, rv, pa, hlen⟩ := I.list hs
    obtain ⟨as, h4⟩ := Dp.readsAll I ds _ its ha rv
    exact PySem.SeqAt.count_list_data pa.isList (by simpa using h4) r1 pl pd (by omega) ⟨.int _, H, I.tok _, ⟨_, rfl⟩, q⟩
end
end OO

/-! iter of a tuple; list(o) of an own object with __iter__ that gives such an iterator, and __len__. -/
namespace OO
open PySem PySem.Spec PyProof.Rows L2 TL GG
/-- at it an iterator over the tuple at p, the next place is i -/
def ItT (p it : Addr) (i : Nat) : HO := .ext fun h => h.IsTupleIter it p i
/-- .. that has ended -/
def ItZ (it : Addr) : HO := .ext fun h => ∃ o, h.get? it = some o
section
open Builtin
variable {prog : Program} {w : World} {A : Around} {E : Value → Shared → Prop} {s : Shared}
/-- the end of such a walk; the iterator is still there -/
theorem nextT_end {y t : Addr} {i : Nat} {xs : Array Value} {Q : Option Value → Shared → Prop} (nh : A.handled = none) (st : s.heap.IsTupleIter y t i) (tu : s.heap.IsTuple t xs) (out : xs[i]? = none)
    (hQ : ∀ h', Heap.ExtBut y s.heap h' → (∃ o, h'.get? y = some o) → Q none { s with heap := h' }) : wpAny (model prog w) A (pyNext (.ref y)) Q E s := by
  obtain ⟨o, e1, e2, e3⟩ := id st
  obtain ⟨ol, f1, _, nl, f2⟩ := tu
  unfold pyNext
  refine wpAny_bind (wpAny_attempt (wpAny_callSpecial?_slot (name := Str.ofString "__next__") st.typeIs F.slot_tuple_iterator_next (wpAny_call_entry F.slot_tuple_iterator_next st.typeIs F.entry_tuple_iterator_next ?_ (F.args_tuple_iterator_next_1 _))))
  show wpAny _ _ (field (.ref y) 0 >>= _) _ _ s
  refine wpAny_bind (wpAny_field e1 e3 (x := .ref t) rfl ?_)
  show wpAny _ _ (if (Value.ref t == Value.none) = true then _ else _) _ _ _
  rw [if_neg (by exact Bool.false_ne_true)]
  show wpAny _ _ (field (.ref y) 1 >>= _) _ _ s
  refine wpAny_bind (wpAny_field e1 e3 (x := .int i 0) rfl ?_)
  show wpAny _ _ (seqItems? (.ref t) >>= _) _ _ _
  refine wpAny_bind (wpAny_seqItems f1 f2 ?_)
  simp only [Int.toNat_natCast, out]
  refine wpAny_bind (wpAny_rule (wpAny_bind (wpAny_setField e1 e3 (by simp) ?_)))
  show wpAny _ _ (newExc (.type "StopIteration") [] >>= _) _ _ _
  refine wpAny_bind ?_
  simp only [newExc, newTuple]
  refine wpAny_bind (wpAny_newObj_type ?_ (by size_fits))
  refine wpAny_bind (m := firstArgMember _ _) (wpAny_of_eq (a := Value.none) (by first | rfl | (rw [firstArgMember]; rfl)) ?_)
  refine wpAny_newObj_type ?_ (by size_fits)
  simp only [raiseNew]
  refine wpAny_bind (wpAny_handled ?_)
  rw [show A.in1.handled = none from nh]
  refine wpAny_bind (wpAny_pure (wpAny_throw ?_))
  refine wpAny_bind (wpAny_isInstance (T := "StopIteration") (b := true) ⟨_, Heap.get?_push_size _ rfl, rfl⟩ isSubtype_stop ?_)
  refine wpAny_pure (hQ _ (((Heap.SameBut.update ..).extBut.push _).push _) ⟨_, Heap.get?_push_of_some _ (Heap.get?_push_of_some _ (Heap.get?_update_self _ e1 (Obj.isFreed_of_fields (Obj.data_mapFields e3 _))))⟩)
end
section
variable {X : Cx} {pins : List (Addr × Obj)} {σ : L2.St} {H : Hp} {s : Shared} {p it S : Addr} {i : Nat}
theorem itT_ok {P : Program} {w : World} {H : Hp} {h : Heap} (e : h.IsTupleIter it p i) : ObjOk P w H h it (ItT p it i) := ⟨e, (let ⟨o, z, _⟩ := e; ⟨o, z⟩), fun h1 h2 q k => q.at fun o z => k o z⟩
theorem itT_get (I : Inv X pins σ H s) (e : H it = some (ItT p it i)) : s.heap.IsTupleIter it p i := (I.hok it _ e).1
/-- iter(t), t a tuple -/
def rIterT (K : PySem.W.Frag) : List V → Hp → VK → Prop := fun xs H Q => ∃ (p : Addr) (ys : List V), xs = [.ref p] ∧ SqT K H p ys ∧ ∀ it, H it = none → Q (.ref it) (upd H it (ItT p it 0))
theorem call_iterT : CallR X (.builtin "iter") (rIterT X.K) := by
  intro pins s σ H xs us Q I r h
  obtain ⟨p, ys, rfl, hq, q⟩ := h
  obtain ⟨u, rfl, ru⟩ := vals1 r
  cases ru
  obtain ⟨its, rv, pt, hz⟩ := I.tuple hq
  refine Calls.call_function_entry (by decide +kernel) (by decide +kernel) PySem.W.kdk_entry_iter (PySem.W.kdk_args_iter _) ?_
  unfold Builtin.«iter»
  refine wpAny_bind (m := someArgs "iter" 1 2 _) (wpAny_of_eq (a := [Value.ref p]) (by first | rfl | kernel_rfl!) ?_)
  show wpAny _ _ (pyIter (.ref p) >>= _) _ _ _
  refine wpAny_bind (wpAny_pyIter_tuple pt ?_)
  exact wpAny_pure ⟨_, rfl, .ref s.heap.objs.size, _, I.laid (t' := s.toks) (fun b u e => Heap.get?_push_of_some _ e) (Nat.le_refl _) (itT_ok ⟨_, Heap.get?_push_size _ rfl, rfl, rfl⟩), rfl, q _ (I.hok.fresh (Nat.le_refl _))⟩
theorem env_at {n : Nat} {A1 : Around} (sb : Sub X n A1) (I : Inv X pins σ H s) : Env0 X.prog X.w X.K X.mg X.base A1 X.stack s H := by
  have e := I.env0
  refine ⟨?_, e.mod, e.bs, e.bsz, e.funs, e.frf, e.hok, e.bare⟩
  rw [sb.fr]
  exact e.frames
/-- a def that raises nothing, run deeper -/
theorem fn_at {n : Nat} {A1 : Around} {g : Addr} {sp : Sp} {us : List Value} {vs : List V} {Q : VK} {E1 : Value → Shared → Prop} (sb : Sub X n A1) (F : FnR X.prog X.w X.K X.mg X.base CX0 n g sp) (I : Inv X pins σ H s) (r : Vals vs us) (h : sp vs H Q E0) :
    wpAny (model X.prog X.w) A1 (call (.ref g) us) (EP X pins σ Q) E1 s :=
  wpAny_call (codeAny_mono (F A1 X.stack s H us vs Q E0 sb.room (env_at sb I) r h) fun way s' told => by
    rcases way with er | fl
    · exact told.elim
    · cases fl <;> first | exact I.after told | exact told.elim)
theorem len_at {n : Nat} {A1 : Around} {a dx C g : Addr} {fs : List (Str × V)} {sp : Sp} {m : Nat} {E1 : Value → Shared → Prop} (sb : Sub X (n + 1) A1) (F : FnR X.prog X.w X.K X.mg X.base CX0 n g sp) (I : Inv X pins σ H s) (ha : H a = some (.ins C dx fs))
    (hs : PySem.W.findIn X.K (.ref C) "__len__" = some (some (.ref g))) (hf : PySem.W.isFn X.K (.ref g) = true) (h : sp [V.ref a] H (fun v H' => v = .int (m : Nat) ∧ H' = H) E0) (hm : m ≤ 1000) :
    wpAny (model X.prog X.w) A1 (call (.builtin "len") [.ref a]) (fun v s' => ∃ t, v = .int (m : Nat) t ∧ Inv X pins σ H s') E1 s := by
  obtain ⟨mA, O, _⟩ := ins_get I.hok ha
  obtain ⟨od, J, _⟩ := O.look
  refine Calls.call_function_entry kind_len plain_len entry_len (args_len1 _) ?_
  unfold Builtin.«len»
  refine wpAny_bind (m := oneArg "len" _) (wpAny_pure ?_)
  refine wpAny_bind (m := callSpecial? (.ref a) (Str.ofString "__len__")) (PySem.W.special_fn (args := []) I.kIn J hs (beq_iff_eq.mp hf) (wpAny_mono (fn_at (vs := [V.ref a]) sb.in1 F I (.cons rfl .nil) h) (fun u s' hq => ?_) fun _ _ y => y))
  obtain ⟨v, H', I3, rv, rfl, eH⟩ := hq
  rw [eH] at I3
  obtain ⟨tk, rfl⟩ := rv
  refine wpAny_bind (wpAny_holding (wpAny_pure ?_))
  refine wpAny_bind (wpAny_letGo ?_)
  show wpAny _ _ (if ((m : Nat) : Int) < 0 then _ else _) _ _ _
  rw [if_neg (by omega)]
  show wpAny _ _ (if ((m : Nat) : Int) ≥ 2 ^ 63 then _ else _) _ _ _
  rw [if_neg (by omega)]
  exact wpAny_bind (wpAny_mkInt (wpAny_pure ⟨_, rfl, _, rfl, I3.tok _⟩))
theorem hint_at {n : Nat} {A1 : Around} {a dx C g : Addr} {fs : List (Str × V)} {sp : Sp} {m : Nat} {E1 : Value → Shared → Prop} {Q : Bool → Shared → Prop} (sb : Sub X (n + 1) A1) (F : FnR X.prog X.w X.K X.mg X.base CX0 n g sp) (I : Inv X pins σ H s) (ha : H a = some (.ins C dx fs))
    (hs : PySem.W.findIn X.K (.ref C) "__len__" = some (some (.ref g))) (hf : PySem.W.isFn X.K (.ref g) = true) (h : sp [V.ref a] H (fun v H' => v = .int (m : Nat) ∧ H' = H) E0) (hm : m ≤ 1000) (hq : ∀ b s', Inv X pins σ H s' → Q b s') :
    wpAny (model X.prog X.w) A1 (Builtin.List.listLengthHint (.ref a)) Q E1 s := by
  obtain ⟨mA, O, _⟩ := ins_get I.hok ha
  obtain ⟨od, J, _⟩ := O.look
  unfold Builtin.List.listLengthHint
  refine wpAny_bind (wpAny_bind (J.type.here ((PySem.W.looks_findIn I.kIn hs).here ?_)))
  refine PySem.W.KFB.if_not rfl ?_
  show wpAny _ _ (if (some (Value.ref g)).isSome = true then _ else _) _ _ _
  rw [if_pos (show (some (Value.ref g)).isSome = true from rfl)]
  refine wpAny_bind (wpAny_rule (wpAny_bind (wpAny_attempt (wpAny_mono (len_at (E1 := fun _ _ => False) sb F I ha hs hf h hm) (fun v s' hv => ?_) fun _ _ y => y.elim))))
  obtain ⟨t, rfl, I3⟩ := hv
  refine wpAny_bind (wpAny_of_eq (a := some ((m : Nat) : Int)) rfl ?_)
  show wpAny _ _ (if Builtin.List.listTooLong ((m : Nat) : Int).toNat = true then _ else _) _ _ _
  rw [Int.toNat_natCast, if_neg (by rw [notLongL (Nat.le_of_lt (small1000 hm))]; exact Bool.false_ne_true)]
  exact wpAny_pure (hq _ _ I3)
theorem sqT_off {K : PySem.W.Frag} {H : Hp} {a b : Addr} {o o2 : HO} {xs : List V} (h : SqT K H a xs) (hb : H b = some o) (hn : ∀ z, ¬ (o = .tup z ∨ ∃ q, o = .frz q (.tup z))) : SqT K (upd H b o2) a xs := by
  refine h.elim (fun r => .inl (r.elim (fun e => .inl ?_) fun ⟨q, e⟩ => .inr ⟨q, ?_⟩)) .inr
  · have : a ≠ b := fun z => by
      rw [z, hb] at e
      exact hn xs (.inl (Option.some.inj e))
    rw [upd_ne this]
    exact e
  · have : a ≠ b := fun z => by
      rw [z, hb] at e
      exact hn xs (.inr ⟨q, Option.some.inj e⟩)
    rw [upd_ne this]
    exact e
/-- the walk of such an iterator into a list -/
theorem loopT {A1 : Around} {ys : List V} {Rs : Result → Shared → Prop} (hh : A1.in1.handled = none) (hl : ys.length ≤ 1000) (hdone : ∀ H' s', Inv X pins σ H' s' → H' S = some (.lst ys) → (∀ b o, b ≠ S → b ≠ it → H b = some o → H' b = some o) → Rs (.ok (.ret .none)) s') :
    ∀ (k i : Nat) (H1 : Hp) (s1 : Shared), i + k = ys.length → Inv X pins σ H1 s1 → H1 S = some (.lst (ys.take i)) → H1 it = some (ItT p it i) → S ≠ it → SqT X.K H1 p ys → (∀ b o, b ≠ S → b ≠ it → H b = some o → H1 b = some o) →
      codeAny (model X.prog X.w) A1 (.builtin "list.extend.loop" ⟨[.ref S, .ref it, .none], []⟩) Rs s1 := by
  intro k
  induction k with
  | zero =>
    intro i H1 s1 hi I hS hI ne hq rest
    have hi : i = ys.length := hi
    obtain ⟨its, rv, pt, hz⟩ := I.tuple hq
    have hlen := rv.length
    refine codeAny_builtin PySem.F.entry_extend_loop ?_
    rw [Around.under_plainId PySem.F.plain_extend_loop _]
    refine wpAny_bind (nextT_end hh (itT_get I hI) pt (by simp; omega) fun h' eb he => wpAny_pure ?_)
    have mu : Mut (H1 it) := by rw [hI]; exact True.intro
    have I1 := I.write (x := it) (e := it) (o := ItZ it) (t' := s1.toks) mu (.inl rfl) (fun b o nb z => eb b o nb z) he ⟨he, he, fun h1 h2 q k => (let ⟨o, z⟩ := q; ⟨o, k o z⟩)⟩
    exact hdone _ _ I1 (by rw [upd_ne ne, hS, hi, List.take_length]) fun b o h1 h2 h3 => by rw [upd_ne h2]; exact rest b o h1 h2 h3
  | succ k ih =>
    intro i H1 s1 hi I hS hI ne hq rest
    obtain ⟨its, rv, pt, hz⟩ := I.tuple hq
    have hx : ys[i]? = some ys[i] := List.getElem?_eq_getElem (by omega)
    obtain ⟨u, hu, ru⟩ := rv.get hx
    refine codeAny_builtin PySem.F.entry_extend_loop ?_
    rw [Around.under_plainId PySem.F.plain_extend_loop _]
    refine wpAny_bind (wpAny_pyNext_tuple_item (itT_get I hI) pt (x := u) (by simpa using hu) fun h' st' sb => ?_)
    have mu : Mut (H1 it) := by rw [hI]; exact True.intro
    obtain ⟨o1, ho1, _⟩ := id st'
    have I1 := I.write (x := it) (e := it) (o := ItT p it (i + 1)) (t' := s1.toks) mu (.inl rfl) (fun b o nb z => (sb.2 b nb).trans z) ⟨_, ho1⟩ (itT_ok st')
    show wpAny _ _ (updateSeq S (·.push u) >>= _) _ _ _
    have hS1 : upd H1 it (ItT p it (i + 1)) S = some (.lst (ys.take i)) := by rw [upd_ne ne]; exact hS
    obtain ⟨z, its1, k1, r2, hl2, e⟩ := I1.lstM hS1
    refine wpAny_bind (wpAny_updateSeq e rfl (wpAny_pure ⟨plainId_quiet PySem.F.plain_extend_loop _, ?_⟩) (by rw [List.size_toArray]; have := sizeLine_eq; rw [List.length_take] at hl2; omega) (by show (its1.toArray.push u).size ≤ sizeLine + 1; rw [Array.size_push, List.size_toArray]; have := sizeLine_eq; rw [List.length_take] at hl2; omega))
    have et : ys.take (i + 1) = ys.take i ++ [ys[i]] := by rw [List.take_add_one, hx]; rfl
    have I2 := I1.lset (its' := its1 ++ [u]) (ys := ys.take i ++ [ys[i]]) (f := (·.push u)) (t' := s1.toks) hS1 e (by simp) (r2.append (.cons ru .nil)) (by have := sizeLine_eq; rw [List.length_append, List.length_take, List.length_singleton]; omega)
    refine ih (i + 1) _ _ (by omega) I2 (by rw [upd_same, et]) (by rw [upd_ne ne.symm]; exact upd_same) ne ?_ fun b o h1 h2 h3 => by rw [upd_ne h1, upd_ne h2]; exact rest b o h1 h2 h3
    exact sqT_off (sqT_off hq hI fun z e => by rcases e with e | ⟨_, e⟩ <;> cases e) hS1 fun z e => by rcases e with e | ⟨_, e⟩ <;> cases e
/-- what is known of an own class whose objects are listed -/
structure LstC (K : PySem.W.Frag) (C fi fl : Addr) : Prop where
  it : PySem.W.findIn K (.ref C) "__iter__" = some (some (.ref fi))
  itF : PySem.W.isFn K (.ref fi) = true
  ln : PySem.W.findIn K (.ref C) "__len__" = some (some (.ref fl))
  lnF : PySem.W.isFn K (.ref fl) = true
/-- list(o): a list, a tuple, or an instance of the class at C -/
def rListO (K : PySem.W.Frag) (C : Addr) (spI spL : Sp) : List V → Hp → VK → Prop := fun xs H Q => (∃ p ys, xs = [.ref p] ∧ (SqL K H p ys ∨ SqT K H p ys) ∧ ∀ l, H l = none → Q (.ref l) (upd H l (.lst ys))) ∨
  ∃ (a dx p : Addr) (fs : List (Str × V)) (ys : List V), xs = [.ref a] ∧ H a = some (.ins C dx fs) ∧ SqT K H p ys ∧ ys.length ≤ 1000 ∧
    (∀ H1, Same H H1 → spI [.ref a] H1 (fun v H2 => ∃ it, v = .ref it ∧ H1 it = none ∧ H2 = upd H1 it (ItT p it 0)) E0) ∧ (∀ H1, Same H H1 → spL [.ref a] H1 (fun v H2 => v = .int (ys.length : Nat) ∧ H2 = H1) E0) ∧
    ∀ H1 l, Same H H1 → H l = none → H1 l = some (.lst ys) → Q (.ref l) H1
theorem call_listO {C fi fl : Addr} {n : Nat} {spI spL : Sp} (hc : LstC X.K C fi fl) (FI : FnR X.prog X.w X.K X.mg X.base CX0 n fi spI) (FL : FnR X.prog X.w X.K X.mg X.base CX0 n fl spL) (hr : Room (n + 3) X.A) (hcalm : X.calm = true) : CallR X (.type "list") (rListO X.K C spI spL) := by
  intro pins s σ H xs us Q I rv h
  rcases h with h | ⟨a, dx, p, fs, ys, rfl, ha, hq, hlen, hI, hL, q⟩
  · exact call_list_of pins s σ H xs us Q I rv h
  obtain ⟨u, rfl, ru⟩ := rv.one
  cases ru
  have sb : Sub X (n + 1) X.A.in1.in1 := (Sub.in1 (Sub.in1 (⟨hr, rfl⟩ : Sub X (n + 3) X.A)))
  refine callType_codes (Q₁ := fun obj s1 => obj = .ref s.heap.objs.size ∧ s1 = { s with heap := s.heap.push { cls := .type "list", data := .seq #[] } }) PySem.F.called_list (PySem.F.typeCall_list_1 _) PySem.F.entry_list_init (code_list_new _ ⟨rfl, rfl⟩) fun obj s1 g0 => ?_
  obtain ⟨rfl, rfl⟩ := g0
  have atS : (s.heap.push { cls := .type "list", data := .seq #[] }).get? s.heap.objs.size = some { cls := .type "list", data := .seq #[] } := Heap.get?_push_size _ rfl
  refine ⟨⟨_, atS, rfl⟩, PySem.F.args_list_init_2 _ _, ?_⟩
  have newS := I.fresh
  have K1 : Inv X pins σ (upd H s.heap.objs.size (.lst [])) { s with heap := s.heap.push { cls := .type "list", data := .seq #[] } } := I.lnew (its := []) (t' := s.toks) .nil (Nat.zero_le _)
  show wpAny _ _ (Builtin.List.listItems (.ref s.heap.objs.size) >>= fun old => Builtin.List.listUpdate (.ref s.heap.objs.size) (fun _ => #[]) >>= fun _ => letGo old.toList.reverse >>= fun _ => Builtin.List.listExtendWith (.ref s.heap.objs.size) (.ref a) .none) _ _ _
  refine wpAny_bind ?_
  unfold Builtin.List.listItems
  refine wpAny_bind (wpAny_seqItems atS rfl (wpAny_pure ?_))
  show wpAny _ _ (updateSeq s.heap.objs.size (fun _ => #[]) >>= fun _ => letGo (#[] : Array Value).toList.reverse >>= fun _ => Builtin.List.listExtendWith (.ref s.heap.objs.size) (.ref a) .none) _ _ _
  refine wpAny_bind (wpAny_updateSeq atS rfl ?_)
  have K2 := K1.lset (f := fun _ => #[]) (its := []) (its' := []) (ys := []) (t' := s.toks) upd_same atS rfl .nil (Nat.zero_le _)
  rw [upd_upd] at K2
  refine wpAny_bind (wpAny_letGo ?_)
  generalize s.heap.objs.size = S at *
  have s1 : Same H (upd H S (.lst [])) := same_upd newS
  have ha2 := s1 _ _ ha
  have hne : S ≠ a := ne_of upd_same ha2 (fun z => nomatch z)
  obtain ⟨mA, J, _⟩ := ins_get K2.hok ha2
  obtain ⟨od, J, _⟩ := J.look
  obtain ⟨mF, hFr⟩ := K2.fr
  unfold Builtin.List.listExtendWith
  refine wpAny_bind (J.type.here ?_)
  have g0 : Builtin.List.listSameRef (.ref S) (.ref a) = false := by simp [Builtin.List.listSameRef, hne]
  have gL : (Value.ref C == Value.type "list") = false := rfl
  have gT : (Value.ref C == Value.type "tuple") = false := rfl
  simp only [g0, gL, gT, Bool.or_false, Bool.false_eq_true, if_false]
  refine wpAny_bind (PySem.W.owit_iter hFr K2.ok.mod.kin J hc.it hc.itF ?_)
  refine wpAny_mono (fn_at (vs := [V.ref a]) (sb.mono (Nat.le_add_right n 1)) FI K2 (.cons rfl .nil) (hI _ s1)) (fun u s2 hu => ?_) fun _ _ y => y
  obtain ⟨v, H2, I3, rv2, it, rfl, hit, rfl⟩ := hu
  cases (show u = Value.ref it from rv2)
  have st := itT_get I3 upd_same
  refine wpAny_specialOf (name := Str.ofString "__next__") st.typeIs F.slot_tuple_iterator_next.lookup ?_
  have nSi : S ≠ it := fun z => by
    rw [← z, upd_same] at hit
    cases hit
  have s2' : Same H (upd (upd H S (.lst [])) it (ItT p it 0)) := s1.trans (same_upd hit)
  have sq : SqT X.K (upd (upd H S (.lst [])) it (ItT p it 0)) p ys := Same.seqT s2' hq
  have eS : upd (upd H S (.lst [])) it (ItT p it 0) S = some (.lst []) := by rw [upd_ne nSi]; exact upd_same
  have eI : upd (upd H S (.lst [])) it (ItT p it 0) it = some (ItT p it 0) := upd_same
  have away : ∀ b o, H b = some o → b ≠ S ∧ b ≠ it := fun b o e => ⟨ne_of_none e newS, ne_of_none (s1 _ _ e) hit⟩
  generalize upd (upd H S (.lst [])) it (ItT p it 0) = H4 at I3 s2' sq eS eI
  have hh : X.A.in1.in1.handled = none := I.ok.hd hcalm
  have fin : ∀ s5, Inv X pins σ H4 s5 → codeAny (model X.prog X.w) X.A.in1 (.builtin "list.extend.loop" ⟨[.ref S, .ref it, .none], []⟩) (wants (fun r sz => r = .none ∧ EP X pins σ Q (.ref S) sz) X.xe) s5 := fun s5 I5 =>
    loopT (H := H4) hh hlen (fun H' s' I' e k => ⟨rfl, .ref S, H', I', rfl, q H' S (fun b o z => k b o (away b o z).1 (away b o z).2 (s2' _ _ z)) newS e⟩) ys.length 0 H4 s5 (Nat.zero_add _) I5 (by rw [List.take_zero]; exact eS) eI nSi sq fun _ _ _ _ z => z
  refine wpAny_bind (wpAny_holding (hint_at sb FL I3 (s2' _ _ ha) hc.ln hc.lnF (hL _ s2') hlen fun b s3 I4 => ?_))
  refine wpAny_ite_split (fun _ => ?_) (fun _ => wpAny_pure ⟨plainId_quiet PySem.F.plain_extend_loop _, fin s3 I4⟩)
  refine wpAny_bind (wpAny_rule (wpAny_bind ?_))
  obtain ⟨z1, its, n1, r1, l1, g1⟩ := I4.lstM eS
  cases r1
  show wpAny _ _ (updateSeq S (fun x => x.push .none) >>= fun _ => updateSeq S (fun x => x.pop)) _ _ _
  refine wpAny_bind (wpAny_updateSeq g1 rfl ?_)
  have J1 := I4.lset (f := fun x => x.push Value.none) (its' := [Value.none]) (ys := [.non]) (t' := s3.toks) eS g1 (by simp) (.cons rfl .nil) (by rw [List.length_singleton, sizeLine_eq]; decide)
  obtain ⟨z2, its2, n2, r2, l2, g2⟩ := J1.lstM upd_same
  obtain ⟨u2, rfl, ru2⟩ := r2.one
  refine wpAny_updateSeq g2 rfl ?_ (by show 1 ≤ sizeLine; rw [sizeLine_eq]; decide) (Nat.zero_le _)
  refine wpAny_pure ⟨plainId_quiet PySem.F.plain_extend_loop _, fin _ ?_⟩
  have J2 := J1.lset (f := fun x => x.pop) (its := [u2]) (its' := []) (ys := []) (t' := s3.toks) upd_same g2 (by rfl) .nil (Nat.zero_le _)
  rw [upd_upd, show upd H4 S (.lst []) = H4 from funext fun b => by
    by_cases hb : b = S
    · rw [hb, upd_same, eS]
    · rw [upd_ne hb]] at J2
  exact J2
end
end OO

/-! A conditional expression as a test. -/
namespace OO
open PySem PySem.Spec PyProof.Rows L2 TL GG
section
variable {X : Cx} {a b c : Expr} {pos : Pos} {ta tb tc : TT}
def tIfE (tc ta tb : TT) : TT := fun σ H Q => tc σ H fun k H1 => if k = true then ta σ H1 Q else tb σ H1 Q
theorem pt_ifE (hc : PT X c tc) (ha : PT X a ta) (hb : PT X b tb) : PT X (.IfExp c a b pos) (tIfE tc ta tb) := by
  refine ⟨fun pins s σ H Q I h => ?_⟩
  refine isTrue_IfExp (thn (hc.run pins s σ H _ I h) fun k s1 ⟨H1, I1, q1⟩ => ?_)
  cases k with
  | true => exact ha.run pins s1 σ H1 Q I1 q1
  | false => exact hb.run pins s1 σ H1 Q I1 q1
end
end OO

namespace K05
open PySem PySem.Spec PyProof.Rows StX L2 TL GG OO LY
/-- a number as it is told: none, or the one -/
def rsV : Option (Option Nat) → List V
  | none => []
  | some r => [numV r]
def spForm (K : PySem.W.Frag) : Sp := fun vs H Q _ => ∃ (x : V) (ds : List PyData), vs = [x] ∧ Val K H x (.tuple ds) ∧ (numB ds).length ≤ 500 ∧ ∀ H' l, Same H H' → H l = none → H' l = some (.lst (rsV (formF ds))) → Q (.ref l) H'
theorem numB_good {ds : List PyData} (h : GG.Good 60 (.tuple ds)) : ∀ p ∈ numB ds, GG.Good 60 p.1 := fun p hp => by
  obtain ⟨d, hd, hp⟩ := List.mem_flatMap.mp hp
  have hgd := ((GG.Good.tup (n := 59)).mp h).2 d hd
  rcases List.mem_cons.mp hp with rfl | hp
  · exact hgd.mono (by decide)
  · by_cases ho : hasOut d = true
    · rw [if_pos ho] at hp
      obtain ⟨z, hz, rfl⟩ := List.mem_map.mp hp
      obtain ⟨a, m, os, rfl, _, _⟩ := out_form ho
      have h1 := ((GG.Good.tup (n := 58)).mp hgd).2 (.tuple os) (by simp)
      exact (((GG.Good.tup (n := 57)).mp h1).2 z hz).mono (by decide)
    · rw [if_neg ho] at hp
      cases hp
theorem item_head {d : PyData} (h : isItemP d = true) : ∃ w r, d = .tuple (.str w :: r) := by
  by_cases hh : isHeadP d = true
  · obtain ⟨m, os, rfl, _⟩ := ask_form hh
    exact ⟨_, _, rfl⟩
  · obtain ⟨w, r, e, _⟩ := (itOk_form (.inr ⟨bf hh, h, way_nil (bf hh) h⟩)).1.1.head
    exact ⟨w, r, e⟩
theorem findW_drop {L : List (PyData × Bool)} {i : Nat} {p : PyData × Bool} (h : L[i]? = some p) (m : Nat) : findW m (L.drop i) = if wrongB p = true then some m else findW (m + 1) (L.drop (i + 1)) := by
  have hi := (List.getElem?_eq_some_iff.mp h).1
  rw [List.drop_eq_getElem_cons hi, (List.getElem?_eq_some_iff.mp h).2]
  rfl
theorem eqv_nil (ds : List PyData) : PyData.eqv (.tuple ds) (.tuple []) = decide (ds = []) := by
  cases ds with
  | nil => rfl
  | cons d r => rfl
theorem wayNo_all : ∀ {os : List PyData}, wayNo os = none → ∀ z ∈ os, isWayItemP z = true
  | [], _, z, hz => nomatch hz
  | d :: r, h, z, hz => by
    have h : (if isWayItemP d = true then (wayNo r).map (· + 1) else some 0) = none := h
    by_cases hd : isWayItemP d = true
    · rw [if_pos hd, Option.map_eq_none_iff] at h
      rcases List.mem_cons.mp hz with rfl | hz
      · exact hd
      · exact wayNo_all h z hz
    · rw [if_neg hd] at h
      cases h
theorem formB_all : ∀ {ds : List PyData} {m : Nat}, formB m ds = none → ∀ d ∈ ds, itOk d
  | [], _, _, z, hz => nomatch hz
  | d :: r, m, h, z, hz => by
    have h : (if isHeadP d = true then (match wayNo (way d) with | some j => some (m + 1 + j) | none => formB (m + 1 + (way d).length) r) else if isItemP d = true then formB (m + 1) r else some m) = none := h
    by_cases hh : isHeadP d = true
    · rw [if_pos hh] at h
      cases hn : wayNo (way d) with
      | some j => rw [hn] at h; cases h
      | none =>
        rw [hn] at h
        rcases List.mem_cons.mp hz with rfl | hz
        · exact .inl ⟨hh, wayNo_all hn⟩
        · exact formB_all h z hz
    · rw [if_neg hh] at h
      by_cases hi : isItemP d = true
      · rw [if_pos hi] at h
        rcases List.mem_cons.mp hz with rfl | hz
        · exact .inr ⟨bf hh, hi, way_nil (bf hh) hi⟩
        · exact formB_all h z hz
      · rw [if_neg hi] at h
        cases h
section
variable {P : Program} {w : World} {K : PySem.W.Frag} {mg : Str → Option Value} {base : Heap} {lt0 lt1 lt2 lt3 lt4 : Tok} {t0 t1 t2 t3 t4 t5 t6 t7 t8 tF tO dC : Addr}
theorem sc_l_form_wrong : FnScope ["_law_items", "_law_number", "_law_item", "_law_inner"] ["_law_items"] (defScope s_l_form_wrong) := ⟨rfl, rfl, rfl, by decide +kernel, rfl, by decide +kernel, by decide +kernel⟩
theorem ok_l_form_wrong {f : Addr} {fd : FuncData} (F : Fun K "_law_form_wrong" "_law_form_wrong" s_l_form_wrong f fd) (T : Txt K mg lt0 lt1 lt2 lt3 lt4 t0 t1 t2 t3 t4 t5 t6 t7 t8 tF tO dC) {f1 : Addr} {fd1 : FuncData} (F_is_item : Fun K "is_item" "is_item" s_is_item f1 fd1) (b_is_item : Binds K fd1 ["value"] []) (g_is_item : mg "is_item" = some (.ref f1)) (G_is_item : FnOk P w K mg base CX0 6 f1 fd1 ["value"] (spChk K isItemP)) {f2 : Addr} {fd2 : FuncData} (F_l_has_out : Fun K "_law_has_out" "_law_has_out" s_l_has_out f2 fd2) (b_l_has_out : Binds K fd2 ["_law_item"] []) (g_l_has_out : mg "_law_has_out" = some (.ref f2)) (G_l_has_out : FnOk P w K mg base CX0 2 f2 fd2 ["_law_item"] (spChk K hasOut)) {f3 : Addr} {fd3 : FuncData} (F_l_numbered : Fun K "_law_numbered" "_law_numbered" s_l_numbered f3 fd3) (b_l_numbered : Binds K fd3 ["_law_items"] []) (g_l_numbered : mg "_law_numbered" = some (.ref f3)) (G_l_numbered : FnOk P w K mg base CX0 3 f3 fd3 ["_law_items"] (spNumB K)) : FnOk P w K mg base CX0 7 f fd ["_law_items"] (spForm K) := by
  refine F.ok sc_l_form_wrong (fun vs H Q E h => ?_) (fun cdv A outer s H vs Q E hr h => ?_)
  · obtain ⟨x, ds, rfl, _⟩ := h
    rfl
  · obtain ⟨x, ds, rfl, hv, hlen, q⟩ := h
    refine ⟨_, (pss_cons (ps_for PassesOwn.never rfl (pi_enum (by rfl) T.m_enumerate (pa_cons (pe_call G_l_numbered (hr.mono (by decide)) (by rfl) g_l_numbered F_l_numbered.kp b_l_numbered .nil pass0 (pa_cons (pv 0) pa_nil)) pa_nil)) (pg_tup rfl (pgs_cons (pg_name (i := 1) sc_l_form_wrong.nd rfl (.inl rfl)) (pgs_cons (pg_tup rfl (pgs_cons (pg_name (i := 2) sc_l_form_wrong.nd rfl (.inl rfl)) (pgs_cons (pg_name (i := 3) sc_l_form_wrong.nd rfl (.inl rfl)) pgs_nil))) pgs_nil))) 
          (pss_cons (ps_if (PW.pt (pw_and (pt_val (pv 3)) (pw_and1 (PW.pt (pw_or (pt_not (pt_val (pe_call G_is_item hr (by rfl) g_is_item F_is_item.kp b_is_item .nil pass0 (pa_cons (pv 2) pa_nil)))) (pw_or1 (pt_cmpR op_in_seq (pe_ix ix_tup (pv 2) pe_int (fun _ _ => rfl)) (pe_lst (pa_cons pe_str (pa_cons pe_str (pa_cons pe_str (pa_cons pe_str pa_nil))))) (by rfl)))))))) 
            (pss_one (ps_ret (pe_lst (pa_cons (pv 1) pa_nil)))) pss_nil) 
          (pss_one (ps_if (PW.pt (pw_and (pt_not (pt_val (pv 3))) (pw_and1 (pt_ifE (pt_val (pe_call G_l_has_out (hr.mono (by decide)) (by rfl) g_l_has_out F_l_has_out.kp b_l_has_out .nil pass0 (pa_cons (pv 2) pa_nil))) (pt_cmpR op_gt (pe_callB call_len_seq (by rfl) T.m_len PySem.boot_len (pa_cons (pe_ix ix_tup (pv 2) pe_int (fun _ _ => rfl)) pa_nil)) pe_int (nomark _)) (pt_not (pt_val (pe_call G_is_item hr (by rfl) g_is_item F_is_item.kp b_is_item .nil pass0 (pa_cons (pv 2) pa_nil)))))))) 
            (pss_one (ps_ret (pe_lst (pa_cons (pv 1) pa_nil)))) pss_nil)))) 
        (pss_cons (ps_if (PW.pt (pw_or (pt_cmpR (op_eqD hr.units) (pv 0) (pe_tup pa_nil) (nomark _)) (pw_or1 (pt_cmpR op_gt (pe_callB call_len_seq (by rfl) T.m_len PySem.boot_len (pa_cons (pe_call G_l_numbered (hr.mono (by decide)) (by rfl) g_l_numbered F_l_numbered.kp b_l_numbered .nil pass0 (pa_cons (pv 0) pa_nil)) pa_nil)) pe_int (nomark _))))) 
          (pss_one (ps_ret (pe_lst (pa_cons pe_non pa_nil)))) pss_nil) 
        (pss_one (ps_ret (pe_lst pa_nil))))), ?_⟩
    have hgood := numB_good hv.dp.2
    have hff := findW_form ds 0
    obtain ⟨b, xs, rfl, hs, ha, hl, h1000, hget⟩ := hv.tup
    refine ⟨_, rfl, _, ds, rfl, hv, hlen, fun H1 ln zs s1 n1 e1 dA => ?_⟩
    have hzl := dpAll_len dA
    rw [List.length_map] at hzl
    have hret : ∀ (i : Nat) (H9 : Hp) (l9 : Addr), formB 0 ds = some i → Same H H9 → H9 l9 = none → Q (.ref l9) (upd H9 l9 (.lst [.int (i : Nat)])) := fun i H9 l9 hfb s9 hl9 => by
      refine q _ l9 (s9.trans (same_upd hl9)) (s9.free hl9) ?_
      rw [upd_same, form_some hfb]
      rfl
    rw [← hff] at hret
    refine ⟨ln, zs, rfl, .inl (.inl e1), for_it walk_enum (fun i σ H' => Same H1 H' ∧ findW 0 (numB ds) = findW i ((numB ds).drop i) ∧ ∃ y1 y2 y3 : Option V, σ = [some (.ref b), y1, y2, y3]) ⟨Same.refl H1, rfl, _, _, _, rfl⟩ (fun i σ H' _ h => .inl (.inl (h.1 _ _ e1))) ?_ ?_⟩
    · rintro i x σ H2 H2' hi ⟨s2, hfw, y1, y2, y3, rfl⟩ ⟨t, u, v, rfl, ht, rfl, hu, hx⟩
      have eu : u = .int (i : Nat) := (Option.some.inj hu).symm
      subst eu
      have hid : i < (numB ds).length := by omega
      have hdi : (numB ds)[i]? = some (numB ds)[i] := List.getElem?_eq_getElem hid
      have hgp := hgood _ (List.mem_of_getElem? hdi)
      rw [findW_drop hdi] at hfw
      have hdp := dpAll_at dA hx (d := prB (numB ds)[i]) (by rw [List.getElem?_map, hdi]; rfl)
      generalize (numB ds)[i] = p at hdp hgp hfw
      obtain ⟨d, inn⟩ := p
      have s3 : Same H (upd H2 t (.tup [.int (i : Nat), v])) := s1.trans (s2.trans (same_upd ht))
      have dp3' := dp_same (s2.trans (same_upd (o := .tup [.int (i : Nat), v]) ht)) _ _ hdp
      have s13 : Same H1 (upd H2 t (.tup [.int (i : Nat), v])) := s2.trans (same_upd ht)
      have et : (upd H2 t (.tup [V.int (i : Nat), v])) t = some (.tup [V.int (i : Nat), v]) := upd_same
      generalize upd H2 t (.tup [V.int (i : Nat), v]) = H3 at s3 dp3' s13 et ⊢
      obtain ⟨t2, vd, vb, rfl, hst2, hvd, hvb⟩ : ∃ (t2 : Addr) (vd vb : V), v = .ref t2 ∧ SqT K H3 t2 [vd, vb] ∧ Dp K H3 vd d ∧ vb = .bl inn := by
        cases dp3' with
        | tup h1 h2 =>
          cases h2 with
          | cons h3 h4 =>
            cases h4 with
            | cons h5 h6 =>
              cases h6
              cases h5
              exact ⟨_, _, _, rfl, h1, h3, rfl⟩
      subst hvb
      have hvv : ∀ H', Same H3 H' → Val K H' vd d := fun H' s' => .inl ⟨dp_same s' _ _ hvd, hgp⟩
      refine ⟨t, _, rfl, .inl (.inl et), rfl, _, _, rfl, _, _, rfl, t2, _, rfl, hst2, rfl, _, _, rfl, _, _, rfl, rfl, rfl, ?_⟩
      cases inn with
      | true =>
        have hw : wrongB (d, true) = (!isItemP d || decide (headW d ∈ (["look", "hold", "try", "ask"] : List Str))) := rfl
        rw [hw] at hfw
        refine ⟨_, rfl, _, rfl, iteT ⟨_, rfl, vd, d, rfl, hvv _ (Same.refl _), fun H4 s4 => ⟨_, rfl, ite2 (fun hi2 => ?_) (fun hi2 => ?_)⟩⟩⟩
        · rw [hi2, Bool.true_or, if_pos rfl] at hfw
          exact ⟨_, rfl, (by show 1 ≤ sizeLine; decide), fun l9 hl9 => hret i H4 l9 hfw (s3.trans s4) hl9⟩
        · have hi2 : isItemP d = true := by
            cases h : isItemP d
            · exact absurd (by rw [h]; rfl) hi2
            · rfl
          rw [hi2] at hfw
          obtain ⟨w0, r0, rfl⟩ := item_head hi2
          obtain ⟨xa, xv, rfl, hxs, hx0⟩ := dp_head (dp_same s4 _ _ hvd)
          refine ⟨_, rfl, xa, xv, _, _, rfl, rfl, hxs, hx0, (by show 4 ≤ sizeLine; decide), fun l5 hl5 => ⟨l5, _, rfl, .inl (.inl (.inl upd_same)), rfl, flat_strs ["look", "hold", "try", "ask"], _, rfl, ?_⟩⟩
          have s5 := same_upd (o := .lst [V.str "look", V.str "hold", V.str "try", V.str "ask"]) hl5
          have e5 : inV (.str w0) [V.str "look", V.str "hold", V.str "try", V.str "ask"] = decide (w0 ∈ (["look", "hold", "try", "ask"] : List Str)) := inV_strs w0 ["look", "hold", "try", "ask"]
          have hfw : findW 0 (numB ds) = if decide (w0 ∈ (["look", "hold", "try", "ask"] : List Str)) = true then some i else findW (i + 1) ((numB ds).drop (i + 1)) := hfw
          refine iteB e5 (ite2 (fun h6 => ?_) (fun h6 => ?_))
          · rw [if_pos h6] at hfw
            exact ⟨_, rfl, (by show 1 ≤ sizeLine; decide), fun l9 hl9 => hret i _ l9 hfw ((s3.trans s4).trans s5) hl9⟩
          · rw [if_neg h6] at hfw
            exact ⟨_, rfl, _, rfl, iteF ⟨s13.trans (s4.trans s5), hfw, _, _, _, rfl⟩⟩
      | false =>
        have hw : wrongB (d, false) = (if hasOut d = true then decide (4 < (outOf d).length) else !isItemP d) := rfl
        rw [hw] at hfw
        refine ⟨_, rfl, _, rfl, iteF ⟨_, rfl, _, rfl, iteT ⟨_, rfl, vd, d, rfl, hvv _ (Same.refl _), fun H4 s4 => ⟨_, rfl, ite2 (fun ho => ?_) (fun ho => ?_)⟩⟩⟩⟩
        · rw [if_pos ho] at hfw
          obtain ⟨a0, m0, os, rfl, _, _⟩ := out_form ho
          obtain ⟨bt, v0, v1, v2, rfl, hbt, _, _, hd2⟩ := dp3 (dp_same s4 _ _ hvd)
          obtain ⟨bo, xo, rfl, hxo, hao⟩ : ∃ (bo : Addr) (xo : List V), v2 = .ref bo ∧ SqT K H4 bo xo ∧ DpAll K H4 xo os := by
            cases hd2 with
            | tup h1 h2 => exact ⟨_, _, rfl, h1, h2⟩
          have hol := dpAll_len hao
          have hfw : findW 0 (numB ds) = if decide (4 < os.length) = true then some i else findW (i + 1) ((numB ds).drop (i + 1)) := hfw
          refine ⟨_, rfl, bt, _, _, _, rfl, rfl, hbt, atI_nat (j := 2) rfl, bo, xo, rfl, .inr hxo, _, _, rfl, rfl, _, rfl, ite2 (fun h6 => ?_) (fun h6 => ?_)⟩
          · have h6 : (4 : Int) < (xo.length : Int) := of_decide_eq_true h6
            rw [if_pos (decide_eq_true (by omega))] at hfw
            exact ⟨_, rfl, (by show 1 ≤ sizeLine; decide), fun l9 hl9 => hret i _ l9 hfw (s3.trans s4) hl9⟩
          · have h6 : ¬ (4 : Int) < (xo.length : Int) := fun z => h6 (decide_eq_true z)
            rw [if_neg (by rw [decide_eq_true_eq]; omega)] at hfw
            exact ⟨s13.trans s4, hfw, _, _, _, rfl⟩
        · rw [if_neg ho] at hfw
          refine ⟨_, rfl, vd, d, rfl, hvv _ s4, fun H5 s5 => ⟨_, rfl, ite2 (fun h6 => ?_) (fun h6 => ?_)⟩⟩
          · have h6 : (!isItemP d) = true := h6
            rw [if_pos h6] at hfw
            exact ⟨_, rfl, (by show 1 ≤ sizeLine; decide), fun l9 hl9 => hret i _ l9 hfw (s3.trans (s4.trans s5)) hl9⟩
          · have h6 : ¬ (!isItemP d) = true := h6
            rw [if_neg h6] at hfw
            exact ⟨s13.trans (s4.trans s5), hfw, _, _, _, rfl⟩
    · rintro σ H2 ⟨s2, hfw, y1, y2, y3, rfl⟩
      rw [List.drop_of_length_le (by omega)] at hfw
      have hfb : formB 0 ds = none := by rw [← hff, hfw]; rfl
      have s12 := s1.trans s2
      refine ⟨_, rfl, Nat.zero_le _, fun t3 ht3 => ⟨.tuple ds, .tuple [], dp_same (s12.trans (same_upd ht3)) _ _ hv.dp.1, .tup (.inl (.inl upd_same)) .nil, hv.dp.2.lay (by decide), by decide +kernel, ?_⟩⟩
      have s3 := s12.trans (same_upd (o := .tup []) ht3)
      generalize upd H2 t3 (.tup []) = H3 at s3
      rw [eqv_nil]
      have hok := formB_all hfb
      have hnl := numB_len hok
      have hfn : ∀ (c : Bool), (decide (1 ≤ (spread ds).length ∧ (spread ds).length ≤ 14) = c) → formF ds = if c = true then none else some none := fun c hc => by
        unfold formF
        rw [hfb]
        cases c
        · exact if_neg (of_decide_eq_false hc)
        · exact if_pos (of_decide_eq_true hc)
      have hno : ∀ (c : Bool) (H9 : Hp) (l9 : Addr), (decide (1 ≤ (spread ds).length ∧ (spread ds).length ≤ 14) = c) → Same H H9 → H9 l9 = none → Q (.ref l9) (upd H9 l9 (.lst (if c = true then [] else [.non]))) := fun c H9 l9 hc s9 hl9 => by
        refine q _ l9 (s9.trans (same_upd hl9)) (s9.free hl9) ?_
        rw [upd_same, hfn c hc]
        cases c <;> rfl
      refine ⟨_, rfl, ite2 (fun h0 => ?_) (fun h0 => ?_)⟩
      · have h0 := of_decide_eq_true h0
        subst h0
        exact ⟨(by show 1 ≤ sizeLine; decide), fun l9 hl9 => hno false H3 l9 (decide_eq_false (by decide)) s3 hl9⟩
      · have h0 : ¬ ds = [] := fun z => h0 (decide_eq_true z)
        have h1 : 1 ≤ (spread ds).length := by
          cases ds with
          | nil => exact absurd rfl h0
          | cons d r =>
            rw [spread_cons]
            simp
        refine ⟨_, rfl, _, ds, rfl, hv.same s3, hlen, fun H4 l4 z4 s4 n4 e4 dA4 => ?_⟩
        have hz4 := dpAll_len dA4
        rw [List.length_map] at hz4
        refine ⟨l4, z4, rfl, .inl (.inl (.inl e4)), _, _, rfl, rfl, _, rfl, ite2 (fun h6 => ?_) (fun h6 => ?_)⟩
        · have h6 : (14 : Int) < (z4.length : Int) := of_decide_eq_true h6
          exact ⟨(by show 1 ≤ sizeLine; decide), fun l9 hl9 => hno false H4 l9 (decide_eq_false (by omega)) (s3.trans s4) hl9⟩
        · have h6 : ¬ (14 : Int) < (z4.length : Int) := fun z => h6 (decide_eq_true z)
          exact ⟨Nat.zero_le _, fun l9 hl9 => hno true H4 l9 (decide_eq_true (by omega)) (s3.trans s4) hl9⟩
end
end K05

namespace K05
open PySem PySem.Spec PyProof.Rows StX L2 TL GG OO LY
/-- what a step of a row may not be, by the law -/
def stepW (d : PyData) (s : St3) (last : Bool) : Bool := if headW d ∈ (["look", "hold", "try"] : List Str) then true else if headW d = "let" then !s.1 || (s.2.1 || (s.2.2 || !last)) else if headW d ∈ (["enter", "leave"] : List Str) then s.2.1 != decide (headW d = "leave") else decide (headW d ∈ (["lock", "unlock"] : List Str)) && (s.2.2 != decide (headW d = "unlock"))
def spStep (K : PySem.W.Frag) : Sp := fun vs H Q _ => ∃ (v : V) (f : Addr) (s : St3) (d : PyData) (b : Bool), vs = [v, .ref f, .bl b] ∧ Dp K H v d ∧ ItemD d ∧ SqL K H f (v3 s) ∧ ∀ H', Same H H' → Q (.bl (stepW d s b)) H'
theorem ne_bl (a b : Bool) : (!decide (V.bl a = V.bl b)) = (a != b) := by cases a <;> cases b <;> decide
theorem dec_str (a b : Str) : decide (V.str a = V.str b) = decide (a = b) := decide_eq_decide.mpr ⟨fun h => V.str.inj h, fun h => by rw [h]⟩
def lsD (o : List Str) : PyData := .list (o.map PyData.str)
theorem eqv_lsD (xs ys : List Str) : PyData.eqv (lsD xs) (lsD ys) = decide (xs = ys) := by
  rw [Bool.eq_iff_iff, decide_eq_true_eq]
  exact eqv_strs xs ys
theorem all_sane {ws : List Str} (h : ∀ w ∈ ws, w ∈ wAll) : ∀ y ∈ ws, Sane y := fun y hy => by
  have := h y hy
  simp only [List.mem_cons, List.not_mem_nil, or_false] at this
  rcases this with rfl | rfl | rfl | rfl | rfl | rfl | rfl | rfl | rfl | rfl | rfl | rfl <;> (unfold Sane; decide +kernel)
theorem lsD_sh {ws : List Str} (h : ∀ w ∈ ws, w ∈ wAll) : SeqAt.shaped (lsD ws) = true := strs_lay ws (all_sane h)
theorem opens_w : (opens.all fun op => op.all fun w => wAll.contains w) = true := by decide +kernel
theorem open_w {o : List Str} (h : o ∈ opens) : ∀ w ∈ o, w ∈ wAll := fun w hw => List.contains_iff_mem.mp (List.all_eq_true.mp (List.all_eq_true.mp opens_w o h) w hw)
theorem opens_g : ∀ o ∈ opens, GG.Good 4 (lsD o) := by
  have : (opens.all fun o => okD (lsD o) && decide (PyData.depth (lsD o) ≤ 4)) = true := by decide +kernel
  intro o ho
  have := List.all_eq_true.mp this o ho
  rw [Bool.and_eq_true, decide_eq_true_eq] at this
  exact this
theorem lsDs_sh {os : List (List Str)} (h : ∀ o ∈ os, o ∈ opens) (hl : os.length ≤ 1000) : SeqAt.shaped (.list (os.map lsD)) = true := GG.Good.lay (n := 5) (GG.Good.lst.mpr ⟨by rw [List.length_map]; exact hl, fun d hd => by
  obtain ⟨o, ho, rfl⟩ := List.mem_map.mp hd
  exact opens_g o (h o ho)⟩) (by decide)
theorem eqv_nilL (ds : List PyData) : PyData.eqv (.list ds) (.list []) = decide (ds = []) := by
  cases ds with
  | nil => rfl
  | cons d r => rfl
def whole (W : List Str) : List (List Str) := opens.filter fun o => decide (W.take o.length = o)
def preL (W : List Str) (m : Nat) : List (List Str) := opens.filter fun o => decide (W.take m = o.take m)
/-- how many open a row by the law, or where it goes wrong -/
def openL (W : List Str) : Nat ⊕ Option Nat := match whole W with
  | o :: _ => .inl o.length
  | [] => .inr ((List.range W.length).find? fun i => decide (preL W (1 + i) = []))
def spOpL (K : PySem.W.Frag) : Sp := fun vs H Q _ => ∃ (x : V) (ds : List PyData), vs = [x] ∧ Dp K H x (.tuple ds) ∧ ds.length ≤ 100 ∧ (∀ d ∈ ds, ItemD d ∧ headW d ∈ wAll) ∧ (∀ m, openL (ds.map headW) = .inl m → ∀ H', Same H H' → Q (iN m) H') ∧
  ∀ r, openL (ds.map headW) = .inr r → ∀ H' l, Same H H' → H l = none → H' l = some (.lst [numV r]) → Q (.ref l) H'
section
variable {K : PySem.W.Frag}
theorem slL0 {H : Hp} {v : V} {ds : List PyData} {m : Nat} {Q : VK} (hv : Dp K H v (.list ds)) (hq : ∀ x H', Same H H' → Dp K H' x (.list (ds.take m)) → Q x H') : rSlL K v none (some (m : Int)) H Q := by
  cases hv with
  | @lst a xs _ hs ha =>
    refine ⟨a, xs, rfl, hs, fun p hp => hq _ _ (same_upd hp) ?_⟩
    rw [← cutG_take]
    exact .lst (.inl (.inl upd_same)) (dpAll_same (same_upd hp) _ _ (dpAll_cut ha none (some (m : Int))))
end
section
variable {P : Program} {w : World} {K : PySem.W.Frag} {mg : Str → Option Value} {base : Heap} {lt0 lt1 lt2 lt3 lt4 : Tok} {t0 t1 t2 t3 t4 t5 t6 t7 t8 tF tO dC : Addr}
theorem sc_l_step_wrong : FnScope ["_law_item", "_law_flags_here", "_law_is_last", "_law_word"] ["_law_item", "_law_flags_here", "_law_is_last"] (defScope s_l_step_wrong) := ⟨rfl, rfl, rfl, by decide +kernel, rfl, by decide +kernel, by decide +kernel⟩
theorem ok_l_step_wrong {f : Addr} {fd : FuncData} (F : Fun K "_law_step_wrong" "_law_step_wrong" s_l_step_wrong f fd) (T : Txt K mg lt0 lt1 lt2 lt3 lt4 t0 t1 t2 t3 t4 t5 t6 t7 t8 tF tO dC) : FnOk P w K mg base CX0 1 f fd ["_law_item", "_law_flags_here", "_law_is_last"] (spStep K) := by
  refine F.ok sc_l_step_wrong (fun vs H Q E h => ?_) (fun cdv A outer s H vs Q E hr h => ?_)
  · obtain ⟨v, f0, s0, d, b, rfl, _⟩ := h
    rfl
  · obtain ⟨v, f0, s0, d, b, rfl, hd, hit, hf, q⟩ := h
    refine ⟨_, (pss_cons (ps_set (i := 3) sc_l_step_wrong.nd rfl (.inl rfl) (pe_ix ix_tup (pv 0) pe_int (fun _ _ => rfl))) 
        (pss_cons (ps_if (pt_cmpR op_in_seq (pv 3) (pe_lst (pa_cons pe_str (pa_cons pe_str (pa_cons pe_str pa_nil)))) (by rfl)) 
          (pss_one (ps_ret pe_bl)) pss_nil) 
        (pss_cons (ps_if (pt_cmpR op_eq (pv 3) pe_str (nomark _)) 
          (pss_one (ps_ret (pe_or (pe_not (pe_ix ix_list (pv 1) pe_int (fun _ _ => rfl))) (pe_or (pe_ix ix_list (pv 1) pe_int (fun _ _ => rfl)) (pe_or (pe_ix ix_list (pv 1) pe_int (fun _ _ => rfl)) (pe_one (pe_not (pv 2)))))))) pss_nil) 
        (pss_cons (ps_if (pt_cmpR op_in_seq (pv 3) (pe_lst (pa_cons pe_str (pa_cons pe_str pa_nil))) (by rfl)) 
          (pss_one (ps_ret (pe_cmpR op_ne (pe_ix ix_list (pv 1) pe_int (fun _ _ => rfl)) (pe_cmpR op_eq (pv 3) pe_str (nomark _)) (nomark _)))) pss_nil) 
        (pss_one (ps_ret (pe_and (pe_cmpR op_in_seq (pv 3) (pe_lst (pa_cons pe_str (pa_cons pe_str pa_nil))) (by rfl)) (pe_one (pe_cmpR op_ne (pe_ix ix_list (pv 1) pe_int (fun _ _ => rfl)) (pe_cmpR op_eq (pv 3) pe_str (nomark _)) (nomark _)))))))))), ?_⟩
    obtain ⟨z, r5, rfl, hhd⟩ := hit.head
    obtain ⟨xa, xv, rfl, hxs, hx0⟩ := dp_head hd
    obtain ⟨b0, b1, b2⟩ := s0
    have qs : ∀ H', Same H H' → Q (.bl (if z ∈ (["look", "hold", "try"] : List Str) then true else if z = "let" then !b0 || (b1 || (b2 || !b)) else if z ∈ (["enter", "leave"] : List Str) then b1 != decide (z = "leave") else decide (z ∈ (["lock", "unlock"] : List Str)) && (b2 != decide (z = "unlock")))) H' := q
    clear q
    have hf0 : ∀ H', Same H H' → SqL K H' f0 [V.bl b0, .bl b1, .bl b2] := fun H' s' => s'.seq hf
    refine ⟨_, rfl, xa, xv, _, _, rfl, rfl, hxs, hx0, ?_⟩
    refine ⟨_, rfl, (by show 3 ≤ sizeLine; decide), fun l1 hl1 => ⟨l1, _, rfl, .inl (.inl (.inl upd_same)), rfl, flat_strs ["look", "hold", "try"], _, rfl, ?_⟩⟩
    have s1 := same_upd (o := .lst [V.str "look", V.str "hold", V.str "try"]) hl1
    generalize upd H l1 (.lst [V.str "look", V.str "hold", V.str "try"]) = H1 at s1 ⊢
    refine iteB (inV_strs z ["look", "hold", "try"]) (ite2 (fun h1 => ?_) (fun h1 => ?_))
    · have qs := qs H1 s1
      rw [if_pos (of_decide_eq_true h1)] at qs
      exact qs
    have h1 : ¬ z ∈ (["look", "hold", "try"] : List Str) := fun k => h1 (decide_eq_true k)
    refine ⟨_, rfl, rfl, _, rfl, iteB (dec_str z "let") (ite2 (fun h2 => ?_) (fun h2 => ?_))⟩
    · have qs := fun H' s' => qs H' s'
      have qs : ∀ H', Same H H' → Q (.bl (!b0 || (b1 || (b2 || !b)))) H' := fun H' s' => by
        have := qs H' s'
        rw [if_neg h1, if_pos (of_decide_eq_true h2)] at this
        exact this
      refine ⟨_, rfl, f0, _, _, _, rfl, rfl, hf0 _ s1, atI_nat (j := 0) rfl, _, rfl, _, rfl, ?_⟩
      cases b0 with
      | false => exact iteT (qs H1 s1)
      | true =>
        refine iteF ⟨_, rfl, f0, _, _, _, rfl, rfl, hf0 _ s1, atI_nat (j := 1) rfl, _, rfl, ?_⟩
        cases b1 with
        | true => exact iteT (qs H1 s1)
        | false =>
          refine iteF ⟨_, rfl, f0, _, _, _, rfl, rfl, hf0 _ s1, atI_nat (j := 2) rfl, _, rfl, ?_⟩
          cases b2 with
          | true => exact iteT (qs H1 s1)
          | false => exact iteF ⟨_, rfl, _, rfl, qs H1 s1⟩
    have h2 : ¬ z = "let" := fun k => h2 (decide_eq_true k)
    refine ⟨_, rfl, (by show 2 ≤ sizeLine; decide), fun l2 hl2 => ⟨l2, _, rfl, .inl (.inl (.inl upd_same)), rfl, flat_strs ["enter", "leave"], _, rfl, ?_⟩⟩
    have s2 := s1.trans (same_upd (o := .lst [V.str "enter", V.str "leave"]) hl2)
    generalize upd H1 l2 (.lst [V.str "enter", V.str "leave"]) = H2 at s2 ⊢
    refine iteB (inV_strs z ["enter", "leave"]) (ite2 (fun h3 => ?_) (fun h3 => ?_))
    · have qs := qs H2 s2
      rw [if_neg h1, if_neg h2, if_pos (of_decide_eq_true h3)] at qs
      refine ⟨_, rfl, f0, _, _, _, rfl, rfl, hf0 _ s2, atI_nat (j := 1) rfl, _, rfl, rfl, rfl, ?_⟩
      rw [ne_bl, dec_str]
      exact qs
    have h3 : ¬ z ∈ (["enter", "leave"] : List Str) := fun k => h3 (decide_eq_true k)
    refine ⟨_, rfl, (by show 2 ≤ sizeLine; decide), fun l3 hl3 => ⟨l3, _, rfl, .inl (.inl (.inl upd_same)), rfl, flat_strs ["lock", "unlock"], _, rfl, ?_⟩⟩
    have s3 := s2.trans (same_upd (o := .lst [V.str "lock", V.str "unlock"]) hl3)
    generalize upd H2 l3 (.lst [V.str "lock", V.str "unlock"]) = H3 at s3 ⊢
    have qs := qs H3 s3
    rw [if_neg h1, if_neg h2, if_neg h3] at qs
    refine iteB (inV_strs z ["lock", "unlock"]) (ite2 (fun h4 => ?_) (fun h4 => ?_))
    · rw [h4, Bool.true_and] at qs
      refine ⟨_, rfl, f0, _, _, _, rfl, rfl, hf0 _ s3, atI_nat (j := 2) rfl, _, rfl, rfl, rfl, ?_⟩
      rw [ne_bl, dec_str]
      exact qs
    · rw [bf h4, Bool.false_and] at qs
      exact qs
end
end K05

namespace K05
open PySem PySem.Spec PyProof.Rows StX L2 TL GG OO LY
/-- len of a list -/
def rLenL (K : PySem.W.Frag) (xs : List V) (H : Hp) (Q : VK) : Prop := ∃ (p : Addr) (ys : List V), xs = [.ref p] ∧ SqL K H p ys ∧ Q (.int (ys.length : Nat)) H
theorem call_lenL {X : Cx} : CallR X (.builtin "len") (rLenL X.K) := fun pins s σ H xs us Q I r h => by
  obtain ⟨p, ys, e, h1, h2⟩ := h
  exact call_len_seq pins s σ H xs us Q I r ⟨p, ys, e, .inl h1, h2⟩
theorem whole_snoc {W : List Str} {j : Nat} (h : j < opens.length) (p : List Str → Bool) : (opens.take (j + 1)).filter p = (opens.take j).filter p ++ (if p opens[j] = true then [opens[j]] else []) := by
  rw [take_snoc h, List.filter_append]
  by_cases hp : p opens[j] = true
  · rw [if_pos hp, List.filter_cons_of_pos hp]
    rfl
  · rw [if_neg hp, List.filter_cons_of_neg hp]
    rfl
section
variable {P : Program} {w : World} {K : PySem.W.Frag} {mg : Str → Option Value} {base : Heap} {lt0 lt1 lt2 lt3 lt4 : Tok} {t0 t1 t2 t3 t4 t5 t6 t7 t8 tF tO dC : Addr}
theorem sc_l_opening : FnScope ["_law_items", "_law_some", "_law_words", "_law_whole", "_law_many", "_law_item", "_law_one"] ["_law_items"] (defScope s_l_opening) := ⟨rfl, rfl, rfl, by decide +kernel, rfl, by decide +kernel, by decide +kernel⟩
theorem ok_l_opening {f : Addr} {fd : FuncData} (F : Fun K "_law_opening" "_law_opening" s_l_opening f fd) (T : Txt K mg lt0 lt1 lt2 lt3 lt4 t0 t1 t2 t3 t4 t5 t6 t7 t8 tF tO dC) : FnOk P w K mg base CX0 1 f fd ["_law_items"] (spOpL K) := by
  refine F.ok sc_l_opening (fun vs H Q E h => ?_) (fun cdv A outer s H vs Q E hr h => ?_)
  · obtain ⟨x, ds, rfl, _⟩ := h
    rfl
  · obtain ⟨x, ds, rfl, hd, h100, hit, q, qr⟩ := h
    refine ⟨_, (pss_cons (ps_set (i := 1) sc_l_opening.nd rfl (.inl rfl) (pe_lst (pa_cons (pe_lst (pa_cons pe_str (pa_cons pe_str pa_nil))) (pa_cons (pe_lst (pa_cons pe_str (pa_cons pe_str pa_nil))) (pa_cons (pe_lst (pa_cons pe_str (pa_cons pe_str (pa_cons pe_str (pa_cons pe_str pa_nil))))) (pa_cons (pe_lst (pa_cons pe_str (pa_cons pe_str (pa_cons pe_str (pa_cons pe_str pa_nil))))) pa_nil)))))) 
        (pss_cons (ps_set (i := 1) sc_l_opening.nd rfl (.inl rfl) (pe_op op_cat (pv 1) (pe_lst (pa_cons (pe_lst (pa_cons pe_str (pa_cons pe_str (pa_cons pe_str (pa_cons pe_str pa_nil))))) (pa_cons (pe_lst (pa_cons pe_str (pa_cons pe_str (pa_cons pe_str (pa_cons pe_str pa_nil))))) pa_nil))))) 
        (pss_cons (ps_set (i := 2) sc_l_opening.nd rfl (.inr rfl) (pe_lc (own := [("_law_item", 5)]) (g := gName 5) rfl sc_l_opening.nd (pi_tup (pv 0)) (blkOk_by (N := ["_law_items", "_law_some", "_law_words", "_law_whole", "_law_many", "_law_item", "_law_one"]) (sc := defScope s_l_opening) (by decide +kernel)) (fun _ _ _ _ _ => pg_name (i := 5) sc_l_opening.nd rfl (.inl rfl)) (fun _ _ _ _ _ => pts_nil) (fun _ _ _ _ _ => (pe_ix (r := rIxT K) ix_tup (pv 5) pe_int (fun _ _ => rfl))))) 
        (pss_cons (ps_setLc (i := 3) (own := [("_law_one", 6)]) (g := gName 6) rfl sc_l_opening.nd rfl rfl (sw_true rfl rfl rfl (by decide +kernel)) (pi_list (pv 1)) (blkOk_by (N := ["_law_items", "_law_some", "_law_words", "_law_whole", "_law_many", "_law_item", "_law_one"]) (sc := defScope s_l_opening) (by decide +kernel)) (fun _ _ _ _ _ => pg_name (i := 6) sc_l_opening.nd rfl (.inl rfl)) (fun _ _ _ _ _ => (pts_one (pt_cmpR (r := rEqD K) (op_eqD hr.units) (pe_slice (r := rSlL K) sl_list (pv 2) po_none (po_some (pe_callB (r := rLenL K) call_lenL (by rfl) T.m_len PySem.boot_len (pa_cons (pv 6) pa_nil)))) (pv 6) (nomark _)))) (fun _ _ _ _ _ => (pv 6))) 
        (pss_cons (ps_if (pt_cmpR (op_neD hr.units) (pv 3) (pe_lst pa_nil) (nomark _)) 
          (pss_one (ps_ret (pe_callB call_len_seq (by rfl) T.m_len PySem.boot_len (pa_cons (pe_ix ix_list (pv 3) pe_int (fun _ _ => rfl)) pa_nil)))) pss_nil) 
        (pss_cons (ps_for PassesOwn.never rfl (pi_range2 rfl T.m_range (pa_cons pe_int (pa_cons (pe_op op_add (pe_callB call_len_seq (by rfl) T.m_len PySem.boot_len (pa_cons (pv 2) pa_nil)) pe_int) pa_nil))) (pg_name (i := 4) sc_l_opening.nd rfl (.inr rfl)) 
          (pss_one (ps_if (pt_cmpR (op_eqD hr.units) (pe_lc (own := [("_law_one", 6)]) (g := gName 6) rfl sc_l_opening.nd (pi_list (pv 1)) (blkOk_by (N := ["_law_items", "_law_some", "_law_words", "_law_whole", "_law_many", "_law_item", "_law_one"]) (sc := defScope s_l_opening) (by decide +kernel)) (fun _ _ _ _ _ => pg_name (i := 6) sc_l_opening.nd rfl (.inl rfl)) (fun _ _ _ _ _ => (pts_one (pt_cmpR (r := rEqD K) (op_eqD hr.units) (pe_slice (r := rSlL K) sl_list (pv 2) po_none (po_some (pv 4))) (pe_slice (r := rSlL K) sl_list (pv 6) po_none (po_some (pv 4))) (nomark _)))) (fun _ _ _ _ _ => (pv 6))) (pe_lst pa_nil) (nomark _)) 
            (pss_one (ps_ret (pe_lst (pa_cons (pe_op op_sub (pv 4) pe_int) pa_nil)))) pss_nil))) 
        (pss_one (ps_ret (pe_lst (pa_cons pe_non pa_nil)))))))))), ?_⟩
    have s0 := Same.refl H
    refine ⟨(by show 2 ≤ sizeLine; decide), fun l0 hl0 => ?_⟩
    have zl0 := same_upd (o := .lst [V.str "look", V.str "hold"]) hl0
    have el0 := upd_same (H := H) (a := l0) (o := .lst [V.str "look", V.str "hold"])
    replace s0 := s0.trans zl0
    generalize upd H l0 (.lst [V.str "look", V.str "hold"]) = Gl0 at s0 el0 ⊢
    clear zl0
    refine ⟨(by show 2 ≤ sizeLine; decide), fun l1 hl1 => ?_⟩
    have zl1 := same_upd (o := .lst [V.str "look", V.str "try"]) hl1
    replace el0 := zl1 _ _ el0
    have el1 := upd_same (H := Gl0) (a := l1) (o := .lst [V.str "look", V.str "try"])
    replace s0 := s0.trans zl1
    generalize upd Gl0 l1 (.lst [V.str "look", V.str "try"]) = Gl1 at s0 el0 el1 ⊢
    clear zl1
    refine ⟨(by show 4 ≤ sizeLine; decide), fun l2 hl2 => ?_⟩
    have zl2 := same_upd (o := .lst [V.str "lock", V.str "look", V.str "hold", V.str "unlock"]) hl2
    replace el0 := zl2 _ _ el0
    replace el1 := zl2 _ _ el1
    have el2 := upd_same (H := Gl1) (a := l2) (o := .lst [V.str "lock", V.str "look", V.str "hold", V.str "unlock"])
    replace s0 := s0.trans zl2
    generalize upd Gl1 l2 (.lst [V.str "lock", V.str "look", V.str "hold", V.str "unlock"]) = Gl2 at s0 el0 el1 el2 ⊢
    clear zl2
    refine ⟨(by show 4 ≤ sizeLine; decide), fun l3 hl3 => ?_⟩
    have zl3 := same_upd (o := .lst [V.str "lock", V.str "look", V.str "try", V.str "unlock"]) hl3
    replace el0 := zl3 _ _ el0
    replace el1 := zl3 _ _ el1
    replace el2 := zl3 _ _ el2
    have el3 := upd_same (H := Gl2) (a := l3) (o := .lst [V.str "lock", V.str "look", V.str "try", V.str "unlock"])
    replace s0 := s0.trans zl3
    generalize upd Gl2 l3 (.lst [V.str "lock", V.str "look", V.str "try", V.str "unlock"]) = Gl3 at s0 el0 el1 el2 el3 ⊢
    clear zl3
    refine ⟨(by show 4 ≤ sizeLine; decide), fun la hla => ?_⟩
    have zla := same_upd (o := .lst [V.ref l0, V.ref l1, V.ref l2, V.ref l3]) hla
    replace el0 := zla _ _ el0
    replace el1 := zla _ _ el1
    replace el2 := zla _ _ el2
    replace el3 := zla _ _ el3
    have ela := upd_same (H := Gl3) (a := la) (o := .lst [V.ref l0, V.ref l1, V.ref l2, V.ref l3])
    replace s0 := s0.trans zla
    generalize upd Gl3 la (.lst [V.ref l0, V.ref l1, V.ref l2, V.ref l3]) = Gla at s0 el0 el1 el2 el3 ela ⊢
    clear zla
    refine ⟨_, rfl, ?_⟩
    refine ⟨(by show 4 ≤ sizeLine; decide), fun l4 hl4 => ?_⟩
    have zl4 := same_upd (o := .lst [V.str "lock", V.str "look", V.str "unlock", V.str "hold"]) hl4
    replace el0 := zl4 _ _ el0
    replace el1 := zl4 _ _ el1
    replace el2 := zl4 _ _ el2
    replace el3 := zl4 _ _ el3
    replace ela := zl4 _ _ ela
    have el4 := upd_same (H := Gla) (a := l4) (o := .lst [V.str "lock", V.str "look", V.str "unlock", V.str "hold"])
    replace s0 := s0.trans zl4
    generalize upd Gla l4 (.lst [V.str "lock", V.str "look", V.str "unlock", V.str "hold"]) = Gl4 at s0 el0 el1 el2 el3 ela el4 ⊢
    clear zl4
    refine ⟨(by show 4 ≤ sizeLine; decide), fun l5 hl5 => ?_⟩
    have zl5 := same_upd (o := .lst [V.str "lock", V.str "look", V.str "unlock", V.str "try"]) hl5
    replace el0 := zl5 _ _ el0
    replace el1 := zl5 _ _ el1
    replace el2 := zl5 _ _ el2
    replace el3 := zl5 _ _ el3
    replace ela := zl5 _ _ ela
    replace el4 := zl5 _ _ el4
    have el5 := upd_same (H := Gl4) (a := l5) (o := .lst [V.str "lock", V.str "look", V.str "unlock", V.str "try"])
    replace s0 := s0.trans zl5
    generalize upd Gl4 l5 (.lst [V.str "lock", V.str "look", V.str "unlock", V.str "try"]) = Gl5 at s0 el0 el1 el2 el3 ela el4 el5 ⊢
    clear zl5
    refine ⟨(by show 2 ≤ sizeLine; decide), fun lb hlb => ?_⟩
    have zlb := same_upd (o := .lst [V.ref l4, V.ref l5]) hlb
    replace el0 := zlb _ _ el0
    replace el1 := zlb _ _ el1
    replace el2 := zlb _ _ el2
    replace el3 := zlb _ _ el3
    replace ela := zlb _ _ ela
    replace el4 := zlb _ _ el4
    replace el5 := zlb _ _ el5
    have elb := upd_same (H := Gl5) (a := lb) (o := .lst [V.ref l4, V.ref l5])
    replace s0 := s0.trans zlb
    generalize upd Gl5 lb (.lst [V.ref l4, V.ref l5]) = Glb at s0 el0 el1 el2 el3 ela el4 el5 elb ⊢
    clear zlb
    refine ⟨la, lb, _, _, rfl, rfl, ela, elb, (by show 6 ≤ sizeLine; decide), fun LS hLS => ?_⟩
    have zS := same_upd (o := .lst ([V.ref l0, V.ref l1, V.ref l2, V.ref l3] ++ [V.ref l4, V.ref l5])) hLS
    replace s0 := s0.trans zS
    obtain ⟨vs, evs⟩ : ∃ vs : List V, vs = [V.ref l0, V.ref l1, V.ref l2, V.ref l3] ++ [V.ref l4, V.ref l5] := ⟨_, rfl⟩
    have hvs : DpAll K (upd Glb LS (.lst ([V.ref l0, V.ref l1, V.ref l2, V.ref l3] ++ [V.ref l4, V.ref l5]))) vs (opens.map lsD) := by
      have hl : ∀ (a : Addr) (ws : List Str), Glb a = some (.lst (ws.map V.str)) → Dp K (upd Glb LS (.lst ([V.ref l0, V.ref l1, V.ref l2, V.ref l3] ++ [V.ref l4, V.ref l5]))) (.ref a) (lsD ws) := fun a ws e => .lst (.inl (.inl (zS _ _ e))) (dp_strs ws)
      rw [evs]
      exact .cons (hl l0 ["look", "hold"] el0) (.cons (hl l1 ["look", "try"] el1) (.cons (hl l2 ["lock", "look", "hold", "unlock"] el2) (.cons (hl l3 ["lock", "look", "try", "unlock"] el3) (.cons (hl l4 ["lock", "look", "unlock", "hold"] el4) (.cons (hl l5 ["lock", "look", "unlock", "try"] el5) .nil)))))
    have eS : (upd Glb LS (.lst ([V.ref l0, V.ref l1, V.ref l2, V.ref l3] ++ [V.ref l4, V.ref l5]))) LS = some (.lst vs) := by rw [upd_same, evs]
    clear el0 el1 el2 el3 el4 el5 ela elb evs
    show tSeq _ _ _ _ (upd Glb LS (.lst ([V.ref l0, V.ref l1, V.ref l2, V.ref l3] ++ [V.ref l4, V.ref l5])))
    generalize upd Glb LS (.lst ([V.ref l0, V.ref l1, V.ref l2, V.ref l3] ++ [V.ref l4, V.ref l5])) = H1 at s0 hvs eS ⊢
    have hvl := dpAll_len hvs
    have hvl6 : vs.length = 6 := by rw [hvl]; rfl
    obtain ⟨b, xs, rfl, hs, ha⟩ : ∃ (b : Addr) (xs : List V), x = .ref b ∧ SqT K H1 b xs ∧ DpAll K H1 xs ds := by
      cases dp_same s0 _ _ hd with
      | tup h1 h2 => exact ⟨_, _, rfl, h1, h2⟩
    have hxl := dpAll_len ha
    have hWall : ∀ w ∈ ds.map headW, w ∈ wAll := fun w hw => by
      obtain ⟨d, hd2, rfl⟩ := List.mem_map.mp hw
      exact (hit d hd2).2
    -- the words
    refine ⟨_, rfl, b, rfl, ⟨_, hs⟩, fun DW hDW => lc_it (walk_tup (xs := xs)) (fun j H' => Same H1 H' ∧ H' DW = some (.lst (((ds.take j).map headW).map V.str))) ⟨same_upd hDW, upd_same⟩ (fun j H' _ h => Same.seqT h.1 hs) ?_ ?_⟩
    · rintro j y _ H2 hj ⟨s2, eW⟩ ⟨rfl, hy⟩
      have hjd : j < ds.length := by omega
      have hdj : ds[j]? = some ds[j] := List.getElem?_eq_getElem hjd
      obtain ⟨hw, r5, hde, hhd⟩ := (hit _ (List.mem_of_getElem? hdj)).1.head
      have hdx := dp_same s2 _ _ (dpAll_at ha hy hdj)
      rw [hde] at hdx
      obtain ⟨xa, xv, rfl, hxs, hx0⟩ := dp_head hdx
      refine ⟨rfl, yes_then ⟨_, rfl, xa, xv, _, _, rfl, rfl, hxs, hx0, _, eW, ?_, same_st s2 hDW, ?_⟩⟩
      · rw [List.length_map, List.length_map, List.length_take]
        exact small1000 (by omega)
      · rw [upd_same, take_snoc hjd, List.map_append, List.map_append, hde]
        rfl
    rintro H2 ⟨s2, eW⟩
    rw [List.take_of_length_le (by omega)] at eW
    have hWl : (ds.map headW).length ≤ 100 := by rw [List.length_map]; exact h100
    generalize ds.map headW = W at eW hWall q qr hWl
    have dW : ∀ H', Same H2 H' → Dp K H' (.ref DW) (lsD W) := fun H' s' => .lst (.inl (.inl (s' _ _ eW))) (dp_strs W)
    replace s0 := s0.trans s2
    replace eS := s2 _ _ eS
    replace hvs := dpAll_same s2 _ _ hvs
    have cutW : ∀ (H' : Hp) (z : V) (m : Nat), Dp K H' z (.list ((W.map PyData.str).take m)) → Dp K H' z (lsD (W.take m)) := fun H' z m h => by
      rw [← List.map_take] at h
      exact h
    have shW : ∀ m, SeqAt.shaped (lsD (W.take m)) = true := fun m => lsD_sh fun w hw => hWall w (List.mem_of_mem_take hw)
    -- whole openings
    refine ⟨_, rfl, LS, rfl, ⟨_, .inl (.inl eS)⟩, fun D hD => lc_it (walk_list (xs := vs)) (fun j H' => Same H2 (hide D H') ∧ ∃ acc : List V, H' D = some (.lst acc) ∧ DpAll K (hide D H') acc (((opens.take j).filter fun o => decide (W.take o.length = o)).map lsD)) ⟨same_hide (same_upd hD) hD, [], upd_same, .nil⟩ (fun j H' _ h => .inl (.inl ((h.1.trans hide_le) _ _ eS))) ?_ ?_⟩
    · rintro j y _ H3 hj ⟨s3, acc, eD, dA⟩ ⟨rfl, hy⟩
      have hj6 : j < opens.length := by rw [hvl6] at hj; exact hj
      have hoj : opens[j]? = some opens[j] := List.getElem?_eq_getElem hj6
      have hdy := dpAll_at hvs hy (d := lsD opens[j]) (by rw [List.getElem?_map, hoj]; rfl)
      have hal := dpAll_len dA
      have hfl : ((opens.take j).filter fun o => decide (W.take o.length = o)).length ≤ 6 := Nat.le_trans (List.length_filter_le _ _) (by rw [List.length_take]; exact Nat.min_le_right _ _)
      rw [List.length_map] at hal
      rw [whole_snoc (W := W) hj6]
      have hom := List.mem_of_getElem? hoj
      generalize opens[j] = op at hdy hom ⊢
      obtain ⟨ya, yv, rfl, hyl, hys⟩ : ∃ (ya : Addr) (yv : List V), y = .ref ya ∧ yv.length = op.length ∧ SqL K H2 ya yv := by
        cases hdy with
        | lst h1 h2 => exact ⟨_, _, rfl, by rw [dpAll_len h2, List.length_map], h1⟩
      have s3' := s3.trans hide_le
      refine ⟨rfl, _, rfl, _, rfl, ya, yv, rfl, s3'.seq hys, _, rfl, ?_⟩
      rw [hyl]
      refine slL0 (dW _ s3') fun z4 H4 s4 hz4 => ⟨_, rfl, lsD (W.take op.length), lsD op, cutW _ _ _ hz4, dp_same (s3'.trans s4) _ _ hdy, shW _, lsD_sh (open_w hom), ?_⟩
      rw [eqv_lsD]
      refine ⟨_, rfl, ite2 (fun hb => ?_) (fun hb => ?_)⟩
      · rw [if_pos hb, List.map_append]
        refine ⟨_, rfl, acc, s4 _ _ eD, small1000 (by omega), ?_, acc ++ [.ref ya], upd_same, ?_⟩
        · rw [hide_upd]
          exact s3.trans (hide_same s4)
        · rw [hide_upd]
          exact dpAll_app (dpAll_same (hide_same s4) _ _ dA) (.cons (dp_same (s3.trans (hide_same s4)) _ _ hdy) .nil)
      · rw [if_neg hb, List.append_nil]
        exact ⟨s3.trans (hide_same s4), acc, s4 _ _ eD, dpAll_same (hide_same s4) _ _ dA⟩
    rintro H3 ⟨s3, acc, eD, dA⟩
    have e6 : opens.take vs.length = opens := by rw [hvl6]; rfl
    rw [e6] at dA
    have dA : DpAll K (hide D H3) acc ((whole W).map lsD) := dA
    have s3' := s3.trans hide_le
    have hwm : ∀ o ∈ whole W, o ∈ opens := fun o ho => (List.mem_filter.mp ho).1
    have hwl : (whole W).length ≤ 1000 := Nat.le_trans (List.length_filter_le _ _) (by decide)
    have s03 := s0.trans s3'
    refine ⟨_, rfl, Nat.zero_le _, fun l9 hl9 => ⟨.list ((whole W).map lsD), .list [], .lst (.inl (.inl ((same_upd hl9) _ _ eD))) (dpAll_same (hide_le.trans (same_upd hl9)) _ _ dA), .lst (.inl (.inl upd_same)) .nil, lsDs_sh hwm hwl, by decide +kernel, ?_⟩⟩
    have s9 := same_upd (o := .lst []) hl9
    replace eD := s9 _ _ eD
    replace dA := dpAll_same (hide_le.trans s9) _ _ dA
    replace s03 := s03.trans s9
    replace s3' := s3'.trans s9
    generalize upd H3 l9 (.lst []) = H9 at eD dA s03 s3' ⊢
    rw [eqv_nilL]
    cases hwh : whole W with
    | cons o ro =>
      rw [hwh] at dA
      have hL : openL W = .inl o.length := by
        unfold openL
        rw [hwh]
      obtain ⟨v0, ra, rfl, d0⟩ : ∃ v0 ra, acc = v0 :: ra ∧ Dp K H9 v0 (lsD o) := by
        cases dA with
        | cons h1 h2 => exact ⟨_, _, rfl, h1⟩
      obtain ⟨a0, x0, rfl, hx0l, hx0⟩ : ∃ (a0 : Addr) (x0 : List V), v0 = .ref a0 ∧ x0.length = o.length ∧ SqL K H9 a0 x0 := by
        cases d0 with
        | lst h1 h2 => exact ⟨_, _, rfl, by rw [dpAll_len h2, List.length_map], h1⟩
      refine ⟨_, rfl, iteT ⟨_, rfl, D, _, _, _, rfl, rfl, .inl (.inl eD), atI_nat (j := 0) rfl, a0, x0, rfl, .inl hx0, ?_⟩⟩
      rw [hx0l]
      exact q _ hL H9 s03
    | nil =>
      have hL : openL W = .inr ((List.range W.length).find? fun i => decide (preL W (1 + i) = [])) := by
        unfold openL
        rw [hwh]
      refine ⟨_, rfl, iteF ?_⟩
      replace eS := s3' _ _ eS
      replace hvs := dpAll_same s3' _ _ hvs
      have dW9 : ∀ H', Same H9 H' → Dp K H' (.ref DW) (lsD W) := fun H' s' => dW _ (s3'.trans s')
      have hWs : SqL K H9 DW (W.map V.str) := .inl (.inl (s3' _ _ eW))
      refine ⟨_, rfl, DW, _, rfl, .inl hWs, _, _, rfl, rfl, 1, _, rfl, ⟨by omega, by omega, ?_, ?_⟩, ?_⟩
      · rw [List.length_map]
        omega
      · rw [List.length_map]
        omega
      have en : (((W.map V.str).length : Int) + 1 - 1).toNat = W.length := by
        rw [List.length_map]
        omega
      refine for_it walk_range (fun i σ H' => Same H9 H' ∧ (∀ k, k < i → preL W (1 + k) ≠ []) ∧ ∃ y4 y5 y6 : Option V, σ = [some (.ref b), some (.ref LS), some (.ref DW), some (.ref D), y4, y5, y6]) ⟨Same.refl H9, fun k hk => by omega, _, _, _, rfl⟩ (fun _ _ _ _ _ => trivial) ?_ ?_
      · rintro i y σ _ H4 hi0 ⟨s4, hfree, y4, y5, y6, rfl⟩ ⟨rfl, rfl⟩
        have hiW : i < W.length := by omega
        replace eS := s4 _ _ eS
        replace hvs := dpAll_same s4 _ _ hvs
        refine ⟨_, rfl, LS, rfl, ⟨_, .inl (.inl eS)⟩, fun D5 hD5 => lc_it (walk_list (xs := vs)) (fun j H' => Same H4 (hide D5 H') ∧ ∃ acc : List V, H' D5 = some (.lst acc) ∧ DpAll K (hide D5 H') acc (((opens.take j).filter fun o => decide (W.take (1 + i) = o.take (1 + i))).map lsD)) ⟨same_hide (same_upd hD5) hD5, [], upd_same, .nil⟩ (fun j H' _ h => .inl (.inl ((h.1.trans hide_le) _ _ eS))) ?_ ?_⟩
        · rintro j y _ H5 hj ⟨s5, acc5, eD5, dA5⟩ ⟨rfl, hy⟩
          have hj6 : j < opens.length := by rw [hvl6] at hj; exact hj
          have hoj : opens[j]? = some opens[j] := List.getElem?_eq_getElem hj6
          have hdy := dpAll_at hvs hy (d := lsD opens[j]) (by rw [List.getElem?_map, hoj]; rfl)
          have hal := dpAll_len dA5
          have hfl : ((opens.take j).filter fun o => decide (W.take (1 + i) = o.take (1 + i))).length ≤ 6 := Nat.le_trans (List.length_filter_le _ _) (by rw [List.length_take]; exact Nat.min_le_right _ _)
          rw [List.length_map] at hal
          have hsn := whole_snoc (W := W) hj6 (fun o => decide (W.take (1 + i) = o.take (1 + i)))
          have hom := List.mem_of_getElem? hoj
          generalize opens[j] = op at hdy hom hsn
          have s5' := s5.trans hide_le
          refine ⟨rfl, _, rfl, ?_⟩
          refine ⟨_, rfl, _, rfl, slL0 (m := 1 + i) (dW9 _ (s4.trans s5')) fun z6 H6 s6 hz6 => ?_⟩
          refine ⟨_, rfl, _, rfl, _, rfl, slL0 (m := 1 + i) (dp_same (s5'.trans s6) _ _ hdy) fun z7 H7 s7 hz7 => ?_⟩
          have hz7 : Dp K H7 z7 (lsD (op.take (1 + i))) := by
            have h : (op.map PyData.str).take (1 + i) = (op.take (1 + i)).map PyData.str := by rw [List.map_take]
            rw [h] at hz7
            exact hz7
          refine ⟨lsD (W.take (1 + i)), lsD (op.take (1 + i)), dp_same s7 _ _ (cutW _ _ _ hz6), hz7, shW _, lsD_sh fun w hw => open_w hom w (List.mem_of_mem_take hw), ?_⟩
          rw [eqv_lsD]
          have s67 := s6.trans s7
          obtain ⟨ya, rfl⟩ : ∃ ya : Addr, y = .ref ya := by
            cases hdy with
            | lst h1 h2 => exact ⟨_, rfl⟩
          refine ⟨_, rfl, ite2 (fun hb => ?_) (fun hb => ?_)⟩
          · refine ⟨_, rfl, acc5, s67 _ _ eD5, small1000 (by omega), ?_, acc5 ++ [.ref ya], upd_same, ?_⟩
            · rw [hide_upd]
              exact s5.trans (hide_same s67)
            · show DpAll K _ _ (((opens.take (j + 1)).filter fun o => decide (W.take (1 + i) = o.take (1 + i))).map lsD)
              rw [hide_upd, hsn, if_pos hb, List.map_append]
              exact dpAll_app (dpAll_same (hide_same s67) _ _ dA5) (.cons (dp_same (s5.trans (hide_same s67)) _ _ hdy) .nil)
          · refine ⟨s5.trans (hide_same s67), acc5, s67 _ _ eD5, ?_⟩
            show DpAll K _ _ (((opens.take (j + 1)).filter fun o => decide (W.take (1 + i) = o.take (1 + i))).map lsD)
            rw [hsn, if_neg hb, List.append_nil]
            exact dpAll_same (hide_same s67) _ _ dA5
        · rintro H5 ⟨s5, acc5, eD5, dA5⟩
          rw [e6] at dA5
          have dA5 : DpAll K (hide D5 H5) acc5 ((preL W (1 + i)).map lsD) := dA5
          have s5' := s5.trans hide_le
          have hpm : ∀ o ∈ preL W (1 + i), o ∈ opens := fun o ho => (List.mem_filter.mp ho).1
          have hpl : (preL W (1 + i)).length ≤ 1000 := Nat.le_trans (List.length_filter_le _ _) (by decide)
          refine ⟨Nat.zero_le _, fun l7 hl7 => ⟨.list ((preL W (1 + i)).map lsD), .list [], .lst (.inl (.inl ((same_upd hl7) _ _ eD5))) (dpAll_same (hide_le.trans (same_upd hl7)) _ _ dA5), .lst (.inl (.inl upd_same)) .nil, lsDs_sh hpm hpl, by decide +kernel, ?_⟩⟩
          have s7 := s5'.trans (same_upd (o := .lst []) hl7)
          generalize upd H5 l7 (.lst []) = H7 at s7 ⊢
          rw [eqv_nilL]
          refine ⟨_, rfl, ite2 (fun hb => ?_) (fun hb => ?_)⟩
          · have hb : preL W (1 + i) = [] := List.map_eq_nil_iff.mp (of_decide_eq_true hb)
            have hf : ((List.range W.length).find? fun i => decide (preL W (1 + i) = [])) = some i := List.find?_range_eq_some.mpr ⟨decide_eq_true hb, List.mem_range.mpr hiW, fun k hk => by rw [decide_eq_false (hfree k hk)]; rfl⟩
            rw [hf] at hL
            refine ⟨_, rfl, _, _, rfl, rfl, (by show 1 ≤ sizeLine; decide), fun l8 hl8 => qr _ hL _ l8 ((s03.trans (s4.trans s7)).trans (same_upd hl8)) ((s03.trans (s4.trans s7)).free hl8) ?_⟩
            rw [upd_same]
            show some (HO.lst [V.int (1 + (i : Int) - 1)]) = some (HO.lst [iN i])
            rw [show (1 + (i : Int) - 1) = Int.ofNat i by rw [Int.ofNat_eq_natCast]; omega]
            rfl
          · have hb : preL W (1 + i) ≠ [] := fun z => hb (decide_eq_true (by rw [z]; rfl))
            refine ⟨s4.trans s7, fun k hk => ?_, _, _, _, rfl⟩
            by_cases e : k = i
            · rw [e]
              exact hb
            · exact hfree k (by omega)
      · rintro σ H4 ⟨s4, hfree, y4, y5, y6, rfl⟩
        rw [en] at hfree
        have hf : ((List.range W.length).find? fun i => decide (preL W (1 + i) = [])) = none := List.find?_eq_none.mpr fun k hk => by
          rw [decide_eq_true_eq]
          exact hfree k (List.mem_range.mp hk)
        rw [hf] at hL
        exact ⟨(by show 1 ≤ sizeLine; decide), fun l8 hl8 => qr _ hL _ l8 ((s03.trans s4).trans (same_upd hl8)) ((s03.trans s4).free hl8) upd_same⟩
end
end K05

namespace K05
open PySem PySem.Spec PyProof.Rows StX L2 TL GG OO LY
/-- numbers of a way out that the law takes for wrong -/
def inW : St3 → Nat → List PyData → List Nat
  | _, _, [] => []
  | s, m, d :: r => (if stepW d s r.isEmpty = true then [m] else []) ++ inW (stB s (headW d)) (m + 1) r
def foldS (s : St3) (w : List PyData) : St3 := w.foldl (fun s d => stB s (headW d)) s
def badS (s : St3) : Bool := s.2.1 || s.2.2
/-- numbers of a row that the law takes for wrong -/
def outW (o : Nat) : Nat → St3 → Nat → List PyData → List Nat
  | _, _, _, [] => []
  | idx, s, m, d :: r => ((if (decide (o ≤ idx) && stepW d s r.isEmpty) = true then [m] else []) ++ (inW (stB s (headW d)) (m + 1) (way d) ++ (if (decide (headW d = "ask") && badS (foldS (stB s (headW d)) (way d))) = true then [m + (way d).length] else []))) ++ outW o (idx + 1) (stB s (headW d)) (m + 1 + (way d).length) r
def lastN : Nat → Nat → List PyData → Nat
  | l, _, [] => l
  | _, m, d :: r => lastN m (m + 1 + (way d).length) r
def ruleW (o : Nat) (ds : List PyData) : List Nat := outW o 0 ff3 0 ds ++ (if badS (foldS ff3 ds) = true then [lastN 0 0 ds] else [])
theorem len_spread : ∀ ds : List PyData, ds.length ≤ (spread ds).length
  | [] => Nat.le_refl _
  | d :: r => by
    have := len_spread r
    show r.length + 1 ≤ (spread (d :: r)).length
    rw [spread_cons, List.length_cons, List.length_append]
    omega
theorem inW_len : ∀ (w : List PyData) (s : St3) (m : Nat), (inW s m w).length ≤ w.length
  | [], _, _ => Nat.le_refl _
  | d :: r, s, m => by
    show ((if stepW d s r.isEmpty = true then [m] else []) ++ inW (stB s (headW d)) (m + 1) r).length ≤ r.length + 1
    rw [List.length_append]
    have := inW_len r (stB s (headW d)) (m + 1)
    split <;> simp <;> omega
theorem outW_len (o : Nat) : ∀ (ds : List PyData) (idx : Nat) (s : St3) (m : Nat), (outW o idx s m ds).length ≤ 2 * (spread ds).length
  | [], _, _, _ => Nat.zero_le _
  | d :: r, idx, s, m => by
    unfold outW
    rw [spread_cons, List.length_append, List.length_append, List.length_append, List.length_cons, List.length_append]
    have h1 := inW_len (way d) (stB s (headW d)) (m + 1)
    have h2 := outW_len o r (idx + 1) (stB s (headW d)) (m + 1 + (way d).length)
    split <;> split <;> simp <;> omega
theorem ruleW_len (o : Nat) (ds : List PyData) : (ruleW o ds).length ≤ 2 * (spread ds).length + 1 := by
  unfold ruleW
  rw [List.length_append]
  have := outW_len o ds 0 ff3 0
  split <;> simp <;> omega
def spRule (K : PySem.W.Frag) : Sp := fun vs H Q _ => ∃ (x : V) (ds : List PyData) (o : Nat), vs = [x, iN o] ∧ Dp K H x (.tuple ds) ∧ (∀ d ∈ ds, ItemD d ∧ ∀ z ∈ way d, ItemD z) ∧ (spread ds).length ≤ 100 ∧
  ∀ (H' : Hp) (l : Addr) (ns : List Int), Same H H' → H l = none → ns.Perm ((ruleW o ds).map Int.ofNat) → ns.Pairwise (· ≤ ·) → H' l = some (.lst ((ns.take 1).map V.int)) → Q (.ref l) H'
theorem if_any {b : Bool} {σ : L2.St} {H : Hp} {Q : VK} {ta tb : TE} (P : V → Hp → Prop) (h1 : b = true → ∀ C : VK, (∀ x H', P x H' → C x H') → ta σ H C) (h2 : b = false → ∀ C : VK, (∀ x H', P x H' → C x H') → tb σ H C) (hq : ∀ x H', P x H' → Q x H') : if b = true then ta σ H Q else tb σ H Q := by
  cases b with
  | true => exact h1 rfl Q hq
  | false => exact h2 rfl Q hq
theorem mapN (ws : List Nat) : ws.map iN = (ws.map Int.ofNat).map V.int := by rw [List.map_map]; rfl
section
variable {P : Program} {w : World} {K : PySem.W.Frag} {mg : Str → Option Value} {base : Heap} {lt0 lt1 lt2 lt3 lt4 : Tok} {t0 t1 t2 t3 t4 t5 t6 t7 t8 tF tO dC : Addr}
theorem sc_l_rule_wrong : FnScope ["_law_items", "_law_opening_here", "_law_flags_here", "_law_number", "_law_wrong", "_law_last", "_law_index", "_law_item", "_law_inner", "_law_end", "_law_at", "_law_one"] ["_law_items", "_law_opening_here"] (defScope s_l_rule_wrong) := ⟨rfl, rfl, rfl, by decide +kernel, rfl, by decide +kernel, by decide +kernel⟩
theorem ok_l_rule_wrong {f : Addr} {fd : FuncData} (F : Fun K "_law_rule_wrong" "_law_rule_wrong" s_l_rule_wrong f fd) (T : Txt K mg lt0 lt1 lt2 lt3 lt4 t0 t1 t2 t3 t4 t5 t6 t7 t8 tF tO dC) (hsrt : mg "sorted" = none) {f1 : Addr} {fd1 : FuncData} (F_l_step_wrong : Fun K "_law_step_wrong" "_law_step_wrong" s_l_step_wrong f1 fd1) (b_l_step_wrong : Binds K fd1 ["_law_item", "_law_flags_here", "_law_is_last"] []) (g_l_step_wrong : mg "_law_step_wrong" = some (.ref f1)) (G_l_step_wrong : FnOk P w K mg base CX0 1 f1 fd1 ["_law_item", "_law_flags_here", "_law_is_last"] (spStep K)) {f2 : Addr} {fd2 : FuncData} (F_l_flags : Fun K "_law_flags" "_law_flags" s_l_flags f2 fd2) (b_l_flags : Binds K fd2 ["_law_flags_here", "_law_item"] []) (g_l_flags : mg "_law_flags" = some (.ref f2)) (G_l_flags : FnOk P w K mg base CX0 1 f2 fd2 ["_law_flags_here", "_law_item"] (spFlags K)) : FnOk P w K mg base CX0 2 f fd ["_law_items", "_law_opening_here"] (spRule K) := by
  refine F.ok sc_l_rule_wrong (fun vs H Q E h => ?_) (fun cdv A outer s H vs Q E hr h => ?_)
  · obtain ⟨x, ds, o, rfl, _⟩ := h
    rfl
  · obtain ⟨x, ds, o, rfl, hd, hit, h100, q⟩ := h
    refine ⟨_, (pss_cons (ps_asg (pe_tup (pa_cons (pe_lst (pa_cons pe_bl (pa_cons pe_bl (pa_cons pe_bl pa_nil)))) (pa_cons pe_int (pa_cons (pe_lst pa_nil) (pa_cons pe_int pa_nil))))) (pg_tup rfl (pgs_cons (pg_name (i := 2) sc_l_rule_wrong.nd rfl (.inl rfl)) (pgs_cons (pg_name (i := 3) sc_l_rule_wrong.nd rfl (.inl rfl)) (pgs_cons (pg_name (i := 4) sc_l_rule_wrong.nd rfl (.inl rfl)) (pgs_cons (pg_name (i := 5) sc_l_rule_wrong.nd rfl (.inl rfl)) pgs_nil)))))) 
        (pss_cons (ps_for PassesOwn.never rfl (pi_enumT (by rfl) T.m_enumerate (pa_cons (pv 0) pa_nil)) (pg_tup rfl (pgs_cons (pg_name (i := 6) sc_l_rule_wrong.nd rfl (.inl rfl)) (pgs_cons (pg_name (i := 7) sc_l_rule_wrong.nd rfl (.inl rfl)) pgs_nil))) 
          (C8.pss_cut (ps_if (PW.pt (pw_and (pt_cmpR op_ge (pv 6) (pv 1) (nomark _)) (pw_and1 (pt_val (pe_call G_l_step_wrong hr (by rfl) g_l_step_wrong F_l_step_wrong.kp b_l_step_wrong .nil pass0 (pa_cons (pv 7) (pa_cons (pv 2) (pa_cons (pe_cmpR op_eq (pv 6) (pe_op op_sub (pe_callB call_len_seq (by rfl) T.m_len PySem.boot_len (pa_cons (pv 0) pa_nil)) pe_int) (nomark _)) pa_nil)))))))) 
            (pss_one (ps_expr (pe_bm PySem.F.plainAttrs_list PySem.F.slot_list_append PySem.F.type_list_append mt_append (pv 4) (pa_cons (pv 3) pa_nil)))) pss_nil) 
          (pss_cons (ps_par3 (i := 2) (j := 5) (l := 3) rfl sc_l_rule_wrong.nd rfl rfl rfl (by decide) (by decide) (by decide) rfl rfl rfl (pa_cons (pe_call G_l_flags hr (by rfl) g_l_flags F_l_flags.kp b_l_flags .nil pass0 (pa_cons (pv 2) (pa_cons (pv 7) pa_nil))) (pa_cons (pv 3) (pa_cons (pe_op op_add (pv 3) pe_int) pa_nil))) (by rfl)) 
          (pss_cons (ps_par (i := 8) (j := 9) rfl sc_l_rule_wrong.nd rfl rfl (by decide) rfl rfl (pa_cons (pv 2) (pa_cons (pv 5) pa_nil)) (by rfl)) 
          (pss_cons (ps_for PassesOwn.never rfl (pi_enumT (by rfl) T.m_enumerate (pa_cons (pe_ifExp (pt_cmpR op_eq (pe_ix ix_tup (pv 7) pe_int (fun _ _ => rfl)) pe_str (nomark _)) (pe_ix ix_tup (pv 7) pe_int (fun _ _ => rfl)) (pe_tup pa_nil)) pa_nil)) (pg_tup rfl (pgs_cons (pg_name (i := 10) sc_l_rule_wrong.nd rfl (.inl rfl)) (pgs_cons (pg_name (i := 11) sc_l_rule_wrong.nd rfl (.inl rfl)) pgs_nil))) 
            (C8.pss_cut (ps_if (pt_val (pe_call G_l_step_wrong hr (by rfl) g_l_step_wrong F_l_step_wrong.kp b_l_step_wrong .nil pass0 (pa_cons (pv 11) (pa_cons (pv 8) (pa_cons (pe_cmpR op_eq (pv 10) (pe_op op_sub (pe_callB call_len_seq (by rfl) T.m_len PySem.boot_len (pa_cons (pe_ix ix_tup (pv 7) pe_int (fun _ _ => rfl)) pa_nil)) pe_int) (nomark _)) pa_nil))))) 
              (pss_one (ps_expr (pe_bm PySem.F.plainAttrs_list PySem.F.slot_list_append PySem.F.type_list_append mt_append (pv 4) (pa_cons (pv 3) pa_nil)))) pss_nil) 
            (pss_one (ps_par3 (i := 8) (j := 9) (l := 3) rfl sc_l_rule_wrong.nd rfl rfl rfl (by decide) (by decide) (by decide) rfl rfl rfl (pa_cons (pe_call G_l_flags hr (by rfl) g_l_flags F_l_flags.kp b_l_flags .nil pass0 (pa_cons (pv 8) (pa_cons (pv 11) pa_nil))) (pa_cons (pv 3) (pa_cons (pe_op op_add (pv 3) pe_int) pa_nil))) (by rfl))))) 
          (pss_one (ps_if (PW.pt (pw_and (pt_cmpR op_eq (pe_ix ix_tup (pv 7) pe_int (fun _ _ => rfl)) pe_str (nomark _)) (pw_and1 (PW.pt (pw_or (pt_val (pe_ix ix_list (pv 8) pe_int (fun _ _ => rfl))) (pw_or1 (pt_val (pe_ix ix_list (pv 8) pe_int (fun _ _ => rfl))))))))) 
            (pss_one (ps_expr (pe_bm PySem.F.plainAttrs_list PySem.F.slot_list_append PySem.F.type_list_append mt_append (pv 4) (pa_cons (pv 9) pa_nil)))) pss_nil))))))) 
        (C8.pss_cut (ps_if (PW.pt (pw_or (pt_val (pe_ix ix_list (pv 2) pe_int (fun _ _ => rfl))) (pw_or1 (pt_val (pe_ix ix_list (pv 2) pe_int (fun _ _ => rfl)))))) 
          (pss_one (ps_expr (pe_bm PySem.F.plainAttrs_list PySem.F.slot_list_append PySem.F.type_list_append mt_append (pv 4) (pa_cons (pv 5) pa_nil)))) pss_nil) 
        (pss_one (ps_ret (pe_slice sl_list (pe_callB cr_sortedI (by rfl) hsrt (by decide +kernel) (pa_cons (pv 4) pa_nil)) po_none (po_some pe_int))))))), ?_⟩
    obtain ⟨b, xs, rfl, hs, ha⟩ : ∃ (b : Addr) (xs : List V), x = .ref b ∧ SqT K H b xs ∧ DpAll K H xs ds := by
      cases hd with
      | tup h1 h2 => exact ⟨_, _, rfl, h1, h2⟩
    have hxl := dpAll_len ha
    have hWl := ruleW_len o ds
    have hsl := len_spread ds
    refine ⟨(by show 3 ≤ sizeLine; decide), fun fl hfl => ⟨Nat.zero_le _, fun lw hlw => ⟨(by show 4 ≤ sizeLine; decide), fun t ht => ⟨t, _, rfl, .inl (.inl upd_same), rfl, _, _, rfl, _, _, rfl, _, _, rfl, _, [], rfl, rfl, ?_⟩⟩⟩⟩
    have s1 := same_upd (o := .lst [V.bl false, V.bl false, V.bl false]) hfl
    have hlwH : H lw = none := s1.free hlw
    have ef := upd_same (H := H) (a := fl) (o := .lst [V.bl false, V.bl false, V.bl false])
    generalize upd H fl (.lst [V.bl false, V.bl false, V.bl false]) = H1 at s1 ef hlw ht ⊢
    have s2 := same_upd (o := .lst []) hlw
    have hfw : fl ≠ lw := fun z => by rw [z, hlw] at ef; cases ef
    have ew := upd_same (H := H1) (a := lw) (o := .lst [])
    have ef := s2 _ _ ef
    have s12 := s1.trans s2
    generalize upd H1 lw (.lst []) = H2 at s2 ef ew s12 ht ⊢
    have s3 := same_upd (o := .tup [V.ref fl, V.int 0, V.ref lw, V.int 0]) ht
    have ef := s3 _ _ ef
    have ew := s3 _ _ ew
    have s03 := s12.trans s3
    generalize upd H2 t (.tup [V.ref fl, V.int 0, V.ref lw, V.int 0]) = H3 at ef ew s03 ⊢
    have sh3 := same_hide s03 hlwH
    refine ⟨_, rfl, b, xs, rfl, Same.seqT s03 hs, for_it walk_enumT (fun i σ H' => Same H (hide lw H') ∧ ∃ (s : St3) (m l : Nat) (ws : List Nat) (fl : Addr) (y6 y7 y8 y9 y10 y11 : Option V), σ = [some (.ref b), some (iN o), some (.ref fl), some (iN m), some (.ref lw), some (iN l), y6, y7, y8, y9, y10, y11] ∧ hide lw H' fl = some (.lst (v3 s)) ∧ H' lw = some (.lst (ws.map iN)) ∧ ws ++ outW o i s m (ds.drop i) = outW o 0 ff3 0 ds ∧ foldS s (ds.drop i) = foldS ff3 ds ∧ lastN l m (ds.drop i) = lastN 0 0 ds ∧ m + (spread (ds.drop i)).length = (spread ds).length) ⟨sh3, ff3, 0, 0, [], fl, _, _, _, _, _, _, rfl, by rw [hide_ne hfw]; exact ef, ew, rfl, rfl, rfl, Nat.zero_add _⟩ (fun i σ H' _ h => Same.seqT (h.1.trans hide_le) hs) ?_ ?_⟩
    · rintro i x σ H4 H4' hi ⟨s4, s, m, l, ws, fl, y6, y7, y8, y9, y10, y11, rfl, ef, ew, hW, hF, hN, hM⟩ ⟨t, u, v, rfl, ht, rfl, hu, hx⟩
      have eu : u = .int (i : Nat) := (Option.some.inj hu).symm
      subst eu
      have hid : i < ds.length := by omega
      have hdi : ds[i]? = some ds[i] := List.getElem?_eq_getElem hid
      have hdrop : ds.drop i = ds[i] :: ds.drop (i + 1) := List.drop_eq_getElem_cons hid
      have hlast : (ds.drop (i + 1)).isEmpty = decide (i = ds.length - 1) := by
        rw [Bool.eq_iff_iff, List.isEmpty_iff, decide_eq_true_eq, List.drop_eq_nil_iff]
        omega
      have hdv := dpAll_at ha hx hdi
      obtain ⟨hitd, hitw⟩ := hit _ (List.mem_of_getElem? hdi)
      rw [hdrop] at hW hF hN hM
      generalize ds.drop (i + 1) = rest at hW hF hN hM hlast ⊢
      generalize ds[i] = d at hdv hitd hitw hW hF hN hM
      have st := same_upd (o := .tup [.int (i : Nat), v]) ht
      have sh := hide_same (l := lw) st
      have s5 := s4.trans sh
      have ef := sh _ _ ef
      have ew := st _ _ ew
      have et := upd_same (H := H4) (a := t) (o := .tup [V.int (i : Nat), v])
      generalize upd H4 t (.tup [V.int (i : Nat), v]) = H5 at s5 ef ew et ⊢
      clear s4 st sh
      have hwsl : (ws ++ outW o i s m (d :: rest)).length ≤ 250 := by
        rw [hW]
        have := outW_len o ds 0 ff3 0
        omega
      have hun : outW o i s m (d :: rest) = ((if (decide (o ≤ i) && stepW d s rest.isEmpty) = true then [m] else []) ++ (inW (stB s (headW d)) (m + 1) (way d) ++ (if (decide (headW d = "ask") && badS (foldS (stB s (headW d)) (way d))) = true then [m + (way d).length] else []))) ++ outW o (i + 1) (stB s (headW d)) (m + 1 + (way d).length) rest := rfl
      rw [hun] at hW hwsl
      clear hun
      have hF : foldS (stB s (headW d)) rest = foldS ff3 ds := hF
      have hN : lastN m (m + 1 + (way d).length) rest = lastN 0 0 ds := hN
      have hM : m + 1 + (way d).length + (spread rest).length = (spread ds).length := by
        rw [← hM, spread_cons, List.length_cons, List.length_append]
        omega
      have hb0 : decide (V.int (i : Nat) = V.int ((xs.length : Int) - 1)) = rest.isEmpty := by
        rw [hlast]
        refine decide_eq_decide.mpr ⟨fun z => ?_, fun z => ?_⟩
        · have := V.int.inj z
          omega
        · congr 1
          omega
      clear hlast
      generalize rest.isEmpty = eb at hW hwsl hb0
      generalize hWA : (if (decide (o ≤ i) && stepW d s eb) = true then [m] else []) = WA at hW hwsl
      refine ⟨t, _, rfl, .inl (.inl et), rfl, _, _, rfl, _, [], rfl, rfl, ?_⟩
      refine ⟨(fun σ' H' => Same (hide lw H5) (hide lw H') ∧ H' lw = some (.lst ((ws ++ WA).map iN)) ∧ σ' = [some (.ref b), some (iN o), some (.ref fl), some (iN m), some (.ref lw), some (iN l), some (.int (i : Nat)), some v, y8, y9, y10, y11]), ?_, ?_⟩
      · refine ⟨_, rfl, _, rfl, _, _, rfl, rfl, _, rfl, ite2 (fun h1 => ?_) (fun h1 => ?_)⟩
        · have h1 : o ≤ i := by
            have : (i : Int) ≥ Int.ofNat o := of_decide_eq_true h1
            exact Int.ofNat_le.mp this
          rw [decide_eq_true h1, Bool.true_and] at hWA
          refine ⟨_, rfl, _, rfl, _, rfl, _, rfl, b, xs, rfl, .inr (Same.seqT (s5.trans hide_le) hs), _, _, rfl, rfl, rfl, v, fl, s, d, _, rfl, dp_same (s5.trans hide_le) _ _ hdv, hitd, .inl (.inl (hide_le _ _ ef)), fun H6 s6 => ⟨_, rfl, iteB (c := stepW d s eb) (by rw [← hb0]) (ite2 (fun h2 => ?_) (fun h2 => ?_))⟩⟩
          · rw [if_pos h2] at hWA
            have ew6 := s6 _ _ ew
            refine ⟨_, rfl, .inl ⟨rfl, _, .inl (.inl ew6)⟩, _, rfl, lw, _, _, rfl, rfl, ew6, small1000 (by rw [List.length_map]; simp only [List.length_append] at hwsl; omega), ?_, ?_, rfl⟩
            · rw [hide_upd]
              exact hide_same s6
            · rw [upd_same, ← hWA, List.map_append]
              rfl
          · rw [if_neg h2] at hWA
            rw [← hWA, List.append_nil]
            exact ⟨hide_same s6, s6 _ _ ew, rfl⟩
        · have h1 : decide (o ≤ i) = false := decide_eq_false fun z => h1 (decide_eq_true (show (i : Int) ≥ Int.ofNat o from Int.ofNat_le.mpr z))
          rw [h1, Bool.false_and, if_neg Bool.false_ne_true] at hWA
          rw [← hWA, List.append_nil]
          exact ⟨Same.refl _, ew, rfl⟩
      rintro σ1 H6 ⟨s6, ew6, rfl⟩
      have ef6 := s6 _ _ ef
      replace s6 := s5.trans s6
      clear ew ef et s5 hWA hb0
      -- the flags behind
      refine ⟨_, rfl, _, rfl, fl, v, s, d, rfl, hide_le _ _ ef6, dp_same (s6.trans hide_le) _ _ hdv, hitd, fun H7 fl2 s7 n7 e7 => ⟨_, rfl, _, rfl, _, _, rfl, rfl, _, _, _, rfl, ?_⟩⟩
      have ew7 := s7 _ _ ew6
      have h72 : fl2 ≠ lw := fun z => by rw [z, ew6] at n7; cases n7
      have ef7 : hide lw H7 fl2 = some (.lst (v3 (stB s (headW d)))) := by rw [hide_ne h72]; exact e7
      replace s7 := s6.trans (hide_same (l := lw) s7)
      clear e7 n7 ef6 ew6 s6
      refine ⟨_, rfl, _, rfl, _, _, rfl, ?_⟩
      generalize hs1 : stB s (headW d) = s1 at ef7 hW hF hwsl
      have hask : headW d = "ask" → ∃ (a : Addr) (v0 v1 : V) (aw : Addr) (zs : List V), v = .ref a ∧ SqT K (hide lw H7) a [v0, v1, .ref aw] ∧ SqT K (hide lw H7) aw zs ∧ DpAll K (hide lw H7) zs (way d) := fun hk => by
        rcases hitd.way with ⟨w0, r0, rfl, h1, _⟩ | ⟨m0, os, rfl, h2⟩
        · exact absurd hk h1
        · rw [h2]
          obtain ⟨a, v0, v1, v2, rfl, h3, _, _, h4⟩ := dp3 (dp_same s7 _ _ hdv)
          cases h4 with
          | tup h5 h6 => exact ⟨a, v0, v1, _, _, rfl, h3, h5, h6⟩
      have hnone : headW d ≠ "ask" → way d = [] := fun hk => by
        rcases hitd.way with ⟨w0, r0, rfl, _, h1⟩ | ⟨m0, os, rfl, _⟩
        · exact h1
        · exact absurd rfl hk
      obtain ⟨hw, r5, hde, hhd⟩ := hitd.head
      have hd7 := dp_same (s7.trans hide_le) _ _ hdv
      rw [hde] at hd7
      obtain ⟨xa, xv, hva, hxs, hx0⟩ := dp_head hd7
      have hxsG : ∀ H', Same (hide lw H7) (hide lw H') → ∃ xa xv, v = .ref xa ∧ SqT K H' xa xv ∧ atI xv 0 = some (.str hw) := fun H' s' => by
        have := dp_same ((s7.trans s').trans hide_le) _ _ hdv
        rw [hde] at this
        exact dp_head this
      subst hva
      refine ⟨_, rfl, xa, xv, _, _, rfl, rfl, hxs, hx0, rfl, _, rfl, if_any (fun x Hx => ∃ (aw : Addr) (zs : List V), x = .ref aw ∧ Same (hide lw H7) (hide lw Hx) ∧ Hx lw = some (.lst ((ws ++ WA).map iN)) ∧ SqT K (hide lw Hx) aw zs ∧ DpAll K (hide lw Hx) zs (way d)) (fun hb C cc => ?_) (fun hb C cc => ?_) (fun x Hx hP => ?_)⟩
      · have hb : hw = "ask" := V.str.inj (of_decide_eq_true hb)
        obtain ⟨a, v0, v1, aw, zs, e1, h3, h5, h6⟩ := hask (hhd.trans hb)
        cases e1
        exact ⟨_, rfl, _, [v0, v1, .ref aw], _, _, rfl, rfl, Same.seqT hide_le h3, atI_nat (j := 2) rfl, cc _ _ ⟨aw, zs, rfl, Same.refl _, ew7, h5, h6⟩⟩
      · have hb : hw ≠ "ask" := fun z => by
          have := of_decide_eq_false hb
          exact this (by rw [z])
        refine ⟨Nat.zero_le _, fun t8 ht8 => cc _ _ ⟨t8, [], rfl, hide_same (same_upd ht8), (same_upd ht8) _ _ ew7, .inl (.inl ?_), ?_⟩⟩
        · rw [hide_ne (fun z => by rw [z, ew7] at ht8; cases ht8)]
          exact upd_same
        · rw [hnone (fun z => hb (hhd.symm.trans z))]
          exact .nil
      obtain ⟨aw, zs, rfl, s8, ew8, hzs, hzd⟩ := hP
      have hzl := dpAll_len hzd
      have ef8 := s8 _ _ ef7
      refine ⟨aw, zs, rfl, Same.seqT hide_le hzs, for_it walk_enumT (fun k σ H' => Same (hide lw Hx) (hide lw H') ∧ ∃ (sI : St3) (wsI : List Nat) (fI : Addr) (y10 y11 : Option V), σ = [some (.ref b), some (iN o), some (.ref fl2), some (iN (m + 1 + k)), some (.ref lw), some (iN m), some (.int (i : Nat)), some (.ref xa), some (.ref fI), some (iN (m + k)), y10, y11] ∧ hide lw H' fI = some (.lst (v3 sI)) ∧ H' lw = some (.lst (wsI.map iN)) ∧ wsI ++ inW sI (m + 1 + k) ((way d).drop k) = (ws ++ WA) ++ inW s1 (m + 1) (way d) ∧ foldS sI ((way d).drop k) = foldS s1 (way d)) ⟨Same.refl _, s1, ws ++ WA, fl2, _, _, rfl, ef8, ew8, rfl, rfl⟩ (fun k σ H' _ h => Same.seqT (h.1.trans hide_le) hzs) ?_ ?_⟩
      · rintro k x σ H9 H9' hk ⟨s9, sI, wsI, fI, y10, y11, rfl, ef9, ew9, hWI, hFI⟩ ⟨t, u, z, rfl, ht, rfl, hu, hx⟩
        have eu : u = .int (k : Nat) := (Option.some.inj hu).symm
        subst eu
        have hkw : k < (way d).length := by omega
        have hdk : (way d)[k]? = some (way d)[k] := List.getElem?_eq_getElem hkw
        have hdrop : (way d).drop k = (way d)[k] :: (way d).drop (k + 1) := List.drop_eq_getElem_cons hkw
        have hlast : ((way d).drop (k + 1)).isEmpty = decide (k = (way d).length - 1) := by
          rw [Bool.eq_iff_iff, List.isEmpty_iff, decide_eq_true_eq, List.drop_eq_nil_iff]
          omega
        have hak : headW d = "ask" := Decidable.byContradiction fun z => by
          rw [hnone z] at hkw
          cases hkw
        obtain ⟨a, v0, v1, aw2, zs2, e1, h3, h5, h6⟩ := hask hak
        cases e1
        have hzl2 := dpAll_len h6
        have hzv := dpAll_at hzd hx hdk
        have hitz := hitw _ (List.mem_of_getElem? hdk)
        rw [hdrop] at hWI hFI
        generalize (way d).drop (k + 1) = rest2 at hWI hFI hlast ⊢
        generalize (way d)[k] = e at hzv hitz hWI hFI
        have st := same_upd (o := .tup [.int (k : Nat), z]) ht
        have sh := hide_same (l := lw) st
        have s10 := s9.trans sh
        have ef9 := sh _ _ ef9
        have ew9 := st _ _ ew9
        have et := upd_same (H := H9) (a := t) (o := .tup [V.int (k : Nat), z])
        generalize upd H9 t (.tup [V.int (k : Nat), z]) = H10 at s10 ef9 ew9 et ⊢
        clear st sh
        have hwl : wsI.length ≤ 250 := by
          have h1 := congrArg List.length hWI
          simp only [List.length_append] at h1 hwsl
          omega
        have hun : inW sI (m + 1 + k) (e :: rest2) = (if stepW e sI rest2.isEmpty = true then [m + 1 + k] else []) ++ inW (stB sI (headW e)) (m + 1 + k + 1) rest2 := rfl
        rw [hun] at hWI
        clear hun
        have hFI : foldS (stB sI (headW e)) rest2 = foldS s1 (way d) := hFI
        have hb0 : decide (V.int (k : Nat) = V.int ((zs2.length : Int) - 1)) = rest2.isEmpty := by
          rw [hlast]
          refine decide_eq_decide.mpr ⟨fun z => ?_, fun z => ?_⟩
          · have := V.int.inj z
            omega
          · congr 1
            omega
        clear hlast
        generalize rest2.isEmpty = eb2 at hWI hb0
        generalize hWB : (if stepW e sI eb2 = true then [m + 1 + k] else []) = WB at hWI
        have s8' := s8.trans s10
        refine ⟨t, _, rfl, .inl (.inl et), rfl, _, _, rfl, _, [], rfl, rfl, ?_⟩
        refine ⟨(fun σ' H' => Same (hide lw H10) (hide lw H') ∧ H' lw = some (.lst ((wsI ++ WB).map iN)) ∧ σ' = [some (.ref b), some (iN o), some (.ref fl2), some (iN (m + 1 + k)), some (.ref lw), some (iN m), some (.int (i : Nat)), some (.ref xa), some (.ref fI), some (iN (m + k)), some (.int (k : Nat)), some z]), ?_, ?_⟩
        · refine ⟨_, rfl, _, rfl, _, rfl, _, rfl, xa, [v0, v1, .ref aw2], _, _, rfl, rfl, Same.seqT (s8'.trans hide_le) h3, atI_nat (j := 2) rfl, aw2, zs2, rfl, .inr (Same.seqT (s8'.trans hide_le) h5), _, _, rfl, rfl, rfl, z, fI, sI, e, _, rfl, dp_same (s10.trans hide_le) _ _ hzv, hitz, .inl (.inl (hide_le _ _ ef9)), fun H11 s11 => ⟨_, rfl, iteB (c := stepW e sI eb2) (by rw [← hb0]) (ite2 (fun h2 => ?_) (fun h2 => ?_))⟩⟩
          · rw [if_pos h2] at hWB
            have ew11 := s11 _ _ ew9
            refine ⟨_, rfl, .inl ⟨rfl, _, .inl (.inl ew11)⟩, _, rfl, lw, _, _, rfl, rfl, ew11, small1000 (by rw [List.length_map]; omega), ?_, ?_, rfl⟩
            · rw [hide_upd]
              exact hide_same s11
            · rw [upd_same, ← hWB, List.map_append]
              rfl
          · rw [if_neg h2] at hWB
            rw [← hWB, List.append_nil]
            exact ⟨hide_same s11, s11 _ _ ew9, rfl⟩
        rintro σ2 H11 ⟨s11, ew11, rfl⟩
        have ef11 := s11 _ _ ef9
        refine ⟨_, rfl, _, rfl, fI, z, sI, e, rfl, hide_le _ _ ef11, dp_same ((s10.trans s11).trans hide_le) _ _ hzv, hitz, fun H12 fJ s12 n12 e12 => ⟨_, rfl, _, rfl, _, _, rfl, rfl, _, _, _, rfl, ?_⟩⟩
        have hJ : fJ ≠ lw := fun z => by rw [z, ew11] at n12; cases n12
        refine ⟨(s10.trans s11).trans (hide_same s12), stB sI (headW e), wsI ++ WB, fJ, some (.int (k : Nat)), some z, (by rw [show m + (k + 1) = m + 1 + k by omega]; rfl), by rw [hide_ne hJ]; exact e12, s12 _ _ ew11, ?_, hFI⟩
        rw [List.append_assoc]
        exact hWI
      · rintro σ H9 ⟨s9, sI, wsI, fI, y10, y11, rfl, ef9, ew9, hWI, hFI⟩
        rw [List.drop_of_length_le (by omega)] at hWI hFI
        have hWI : wsI ++ [] = (ws ++ WA) ++ inW s1 (m + 1) (way d) := hWI
        rw [List.append_nil] at hWI
        have hFI : sI = foldS s1 (way d) := hFI
        rw [← hFI] at hW hwsl
        rw [hzl] 
        have hwl : wsI.length ≤ 250 := by
          have h1 := congrArg List.length hWI
          simp only [List.length_append] at h1 hwsl
          omega
        have s89 := s8.trans s9
        obtain ⟨xa9, xv9, e9, hxs9, hx09⟩ := hxsG _ s89
        cases e9
        have fin : ∀ (WC : List Nat) (H' : Hp), (if (decide (headW d = "ask") && badS sI) = true then [m + (way d).length] else []) = WC → Same (hide lw H9) (hide lw H') → H' lw = some (.lst ((wsI ++ WC).map iN)) → Same H (hide lw H') ∧ ∃ (s : St3) (m_ l : Nat) (ws : List Nat) (fl : Addr) (z6 z7 z8 z9 z10 z11 : Option V), [some (.ref b), some (iN o), some (.ref fl2), some (iN (m + 1 + (way d).length)), some (.ref lw), some (iN m), some (.int (i : Nat)), some (.ref xa), some (.ref fI), some (iN (m + (way d).length)), y10, y11] = [some (.ref b), some (iN o), some (.ref fl), some (iN m_), some (.ref lw), some (iN l), z6, z7, z8, z9, z10, z11] ∧ hide lw H' fl = some (.lst (v3 s)) ∧ H' lw = some (.lst (ws.map iN)) ∧ ws ++ outW o (i + 1) s m_ rest = outW o 0 ff3 0 ds ∧ foldS s rest = foldS ff3 ds ∧ lastN l m_ rest = lastN 0 0 ds ∧ m_ + (spread rest).length = (spread ds).length := fun WC H' hWC s' e' => by
          refine ⟨(s7.trans s89).trans s', s1, m + 1 + (way d).length, m, wsI ++ WC, fl2, _, _, _, _, _, _, rfl, (s89.trans s') _ _ ef7, e', ?_, hF, hN, hM⟩
          rw [← hW, hWC, hWI]
          simp only [List.append_assoc]
        refine ⟨_, rfl, xa, xv9, _, _, rfl, rfl, hxs9, hx09, rfl, _, rfl, iteB (c := decide (headW d = "ask")) (by rw [hhd]; exact dec_str hw "ask") (ite2 (fun hk => ?_) (fun hk => ?_))⟩
        · rw [hk, Bool.true_and] at fin
          obtain ⟨c0, c1, c2⟩ := sI
          have lI : SqL K H9 fI [V.bl c0, .bl c1, .bl c2] := .inl (.inl (hide_le _ _ ef9))
          have put : ∀ (G : Prop), G → G := fun _ h => h
          cases c1 with
          | true =>
            refine ⟨_, rfl, fI, _, _, _, rfl, rfl, lI, atI_nat (j := 1) rfl, _, rfl, iteT ⟨_, rfl, .inl ⟨rfl, _, .inl (.inl ew9)⟩, _, rfl, lw, _, _, rfl, rfl, ew9, small1000 (by rw [List.length_map]; omega), ?_⟩⟩
            refine fin [m + (way d).length] _ rfl ?_ ?_
            · rw [hide_upd]
              exact Same.refl _
            · rw [upd_same, List.map_append]
              rfl
          | false =>
            refine ⟨_, rfl, fI, _, _, _, rfl, rfl, lI, atI_nat (j := 1) rfl, _, rfl, iteF ⟨_, rfl, fI, _, _, _, rfl, rfl, lI, atI_nat (j := 2) rfl, _, rfl, ?_⟩⟩
            cases c2 with
            | true =>
              refine iteT ⟨_, rfl, .inl ⟨rfl, _, .inl (.inl ew9)⟩, _, rfl, lw, _, _, rfl, rfl, ew9, small1000 (by rw [List.length_map]; omega), ?_⟩
              refine fin [m + (way d).length] _ rfl ?_ ?_
              · rw [hide_upd]
                exact Same.refl _
              · rw [upd_same, List.map_append]
                rfl
            | false => exact iteF (fin [] H9 rfl (Same.refl _) (by rw [List.append_nil]; exact ew9))
        · rw [bf hk, Bool.false_and] at fin
          exact fin [] H9 rfl (Same.refl _) (by rw [List.append_nil]; exact ew9)
    · rintro σ H4 ⟨s4, s, m, l, ws, fl, y6, y7, y8, y9, y10, y11, rfl, ef, ew, hW, hF, hN, hM⟩
      rw [List.drop_of_length_le (by omega)] at hW hF hN
      have hW : ws ++ [] = outW o 0 ff3 0 ds := hW
      rw [List.append_nil] at hW
      have hF : s = foldS ff3 ds := hF
      have hN : l = lastN 0 0 ds := hN
      have hR : ruleW o ds = ws ++ (if badS s = true then [l] else []) := by
        unfold ruleW
        rw [← hW, ← hF, ← hN]
      have hwl : ws.length ≤ 300 := by
        rw [hR, List.length_append] at hWl
        omega
      clear hW hF hN hM
      refine ⟨(fun σ' H' => Same H (hide lw H') ∧ H' lw = some (.lst ((ruleW o ds).map iN)) ∧ σ' = [some (.ref b), some (iN o), some (.ref fl), some (iN m), some (.ref lw), some (iN l), y6, y7, y8, y9, y10, y11]), ?_, ?_⟩
      · rw [hR]
        obtain ⟨c0, c1, c2⟩ := s
        have lI : SqL K H4 fl [V.bl c0, .bl c1, .bl c2] := .inl (.inl (hide_le _ _ ef))
        have fin : ∀ (WC : List Nat) (H' : Hp), Same (hide lw H4) (hide lw H') → H' lw = some (.lst ((ws ++ WC).map iN)) → Same H (hide lw H') ∧ H' lw = some (.lst ((ws ++ WC).map iN)) ∧ [some (.ref b), some (iN o), some (.ref fl), some (iN m), some (.ref lw), some (iN l), y6, y7, y8, y9, y10, y11] = [some (.ref b), some (iN o), some (.ref fl), some (iN m), some (.ref lw), some (iN l), y6, y7, y8, y9, y10, y11] := fun WC H' s' e' => ⟨s4.trans s', e', rfl⟩
        cases c1 with
        | true =>
          refine ⟨_, rfl, fl, _, _, _, rfl, rfl, lI, atI_nat (j := 1) rfl, _, rfl, iteT ⟨_, rfl, .inl ⟨rfl, _, .inl (.inl ew)⟩, _, rfl, lw, _, _, rfl, rfl, ew, small1000 (by rw [List.length_map]; omega), ?_⟩⟩
          refine fin [l] _ ?_ ?_
          · rw [hide_upd]
            exact Same.refl _
          · rw [upd_same, List.map_append]
            rfl
        | false =>
          refine ⟨_, rfl, fl, _, _, _, rfl, rfl, lI, atI_nat (j := 1) rfl, _, rfl, iteF ⟨_, rfl, fl, _, _, _, rfl, rfl, lI, atI_nat (j := 2) rfl, _, rfl, ?_⟩⟩
          cases c2 with
          | true =>
            refine iteT ⟨_, rfl, .inl ⟨rfl, _, .inl (.inl ew)⟩, _, rfl, lw, _, _, rfl, rfl, ew, small1000 (by rw [List.length_map]; omega), ?_⟩
            refine fin [l] _ ?_ ?_
            · rw [hide_upd]
              exact Same.refl _
            · rw [upd_same, List.map_append]
              rfl
          | false => exact iteF (fin [] H4 (Same.refl _) (by rw [List.append_nil]; exact ew))
      rintro σ5 H5 ⟨s5, ew5, rfl⟩
      have s5' := s5.trans hide_le
      refine ⟨_, rfl, lw, (ruleW o ds).map Int.ofNat, rfl, .inl (.inl (by rw [ew5, mapN])), fun ns p9 hp1 hp2 hp9 => ?_⟩
      have s9 := same_upd (o := .lst (ns.map V.int)) hp9
      refine ⟨1, rfl, p9, ns.map V.int, rfl, .inl (.inl upd_same), fun l9 hl9 => q _ l9 ns ((s5'.trans s9).trans (same_upd hl9)) ((s5'.trans s9).free hl9) hp1 hp2 ?_⟩
      rw [upd_same]
      have e1 : cutV (ns.map V.int) none (some 1) = (ns.take 1).map V.int := by
        show cutG (ns.map V.int) none (some 1) = _
        cases ns with
        | nil =>
          unfold cutG
          simp
        | cons n r =>
          rw [cutG_lo _ (by decide) (by rw [List.length_map, List.length_cons]; omega), List.map_take]
          rfl
      rw [e1]
end
end K05

namespace K05
open PySem PySem.Spec PyProof.Rows StX L2 TL GG OO LY
/-- the least of some numbers -/
def FirstIs (W : List Nat) (r : Option Nat) : Prop := match r with
  | none => W = []
  | some n => n ∈ W ∧ ∀ x ∈ W, n ≤ x
theorem first_take {W : List Nat} {r : Option Nat} (h : FirstIs W r) {ns : List Int} (hp : ns.Perm (W.map Int.ofNat)) (hs : ns.Pairwise (· ≤ ·)) : (ns.take 1).map V.int = rsV (r.map some) := by
  cases r with
  | none =>
    have h : W = [] := h
    rw [h] at hp
    rw [List.Perm.eq_nil hp]
    rfl
  | some n =>
    obtain ⟨h1, h2⟩ := h
    have hn : Int.ofNat n ∈ ns := hp.mem_iff.mpr (List.mem_map.mpr ⟨n, h1, rfl⟩)
    cases ns with
    | nil => cases hn
    | cons a r =>
      obtain ⟨x, hx, hxa⟩ := List.mem_map.mp (hp.mem_iff.mp (List.mem_cons_self (a := a) (l := r)))
      have hle := h2 x hx
      have ha : a ≤ Int.ofNat n := by
        rcases List.mem_cons.mp hn with e | e
        · rw [e]
          exact Int.le_refl _
        · exact (List.pairwise_cons.mp hs).1 _ e
      have : a = Int.ofNat n := by
        rw [← hxa] at ha ⊢
        have ha := Int.ofNat_le.mp ha
        rw [show x = n by omega]
      rw [this]
      rfl
/-! ### openings -/
theorem pre_iff (W : List Str) (m : Nat) : preO W m = true ↔ preL W m ≠ [] := by
  unfold preO preL
  rw [List.any_eq_true]
  constructor
  · rintro ⟨o, ho, hp⟩ e
    have := (List.mem_filter (p := fun o => decide (W.take m = o.take m))).mpr ⟨ho, hp⟩
    rw [e] at this
    cases this
  · intro h
    obtain ⟨o, ho⟩ := List.exists_mem_of_ne_nil _ h
    exact ⟨o, (List.mem_filter.mp ho).1, (List.mem_filter.mp ho).2⟩
theorem opens_len4 : ∀ o ∈ opens, 1 ≤ o.length ∧ o.length ≤ 4 := by decide +kernel
theorem opens_free : ∀ o ∈ opens, ∀ o2 ∈ opens, o2.length ≤ o.length → o.take o2.length = o2 → o2.length = o.length := by decide +kernel
theorem in_iff (W : List Str) (m : Nat) : inO W m = true ↔ W.take m ∈ opens := by
  unfold inO
  rw [List.any_eq_true]
  exact ⟨fun ⟨o, ho, hp⟩ => by rw [of_decide_eq_true hp]; exact ho, fun h => ⟨_, h, decide_eq_true rfl⟩⟩
theorem whole_len {W o : List Str} (h : W.take o.length = o) : o.length ≤ W.length := by
  have := congrArg List.length h
  rw [List.length_take] at this
  omega
theorem openG_eq (W : List Str) : ∀ f m, m + f = min 4 W.length + 1 → 1 ≤ m → (∀ k, 1 ≤ k → k < m → ¬ inO W k = true ∧ preO W k = true) → openG W f m = openL W
  | 0, m, hm, h1, hk => by
    have hw : whole W = [] := List.filter_eq_nil_iff.mpr fun o ho hp => by
      have hp := of_decide_eq_true hp
      have hl := whole_len hp
      have h4 := opens_len4 o ho
      exact (hk o.length h4.1 (by omega)).1 ((in_iff W _).mpr (by rw [hp]; exact ho))
    have hf : (List.range W.length).find? (fun i => decide (preL W (1 + i) = [])) = none := List.find?_eq_none.mpr fun i hi => by
      have hi := List.mem_range.mp hi
      rw [decide_eq_true_eq]
      by_cases h5 : 1 + i < m
      · exact (pre_iff W _).mp (hk (1 + i) (by omega) h5).2
      · exfalso
        obtain ⟨hn, hp⟩ := hk 4 (by omega) (by omega)
        obtain ⟨o, ho, hp⟩ := List.any_eq_true.mp hp
        have hp := of_decide_eq_true hp
        have h4 := opens_len4 o ho
        have hl := congrArg List.length hp
        rw [List.length_take, List.length_take] at hl
        have : o.length = 4 := by omega
        rw [List.take_of_length_le (by omega : o.length ≤ 4)] at hp
        exact hn ((in_iff W 4).mpr (by rw [hp]; exact ho))
    show Sum.inr none = openL W
    unfold openL
    rw [hw, hf]
  | f + 1, m, hm, h1, hk => by
    show (if inO W m = true then Sum.inl m else if preO W m = true then openG W f (m + 1) else Sum.inr (some (m - 1))) = _
    by_cases hi : inO W m = true
    · rw [if_pos hi]
      have hmem := (in_iff W m).mp hi
      have hlen : (W.take m).length = m := by rw [List.length_take]; omega
      have hin : W.take m ∈ whole W := List.mem_filter.mpr ⟨hmem, decide_eq_true (by rw [hlen])⟩
      unfold openL
      cases hw : whole W with
      | nil => rw [hw] at hin; cases hin
      | cons o ro =>
        have ho : o ∈ whole W := by rw [hw]; exact List.mem_cons_self
        obtain ⟨ho1, ho2⟩ := List.mem_filter.mp ho
        have ho2 := of_decide_eq_true ho2
        have hol := whole_len ho2
        have : o.length = m := by
          by_cases hle : o.length ≤ m
          · have := opens_free _ hmem o ho1 (by rw [hlen]; exact hle) (by rw [List.take_take, Nat.min_eq_left hle]; exact ho2)
            rw [this, hlen]
          · have := opens_free o ho1 _ hmem (by rw [hlen]; omega) (by
              rw [hlen]
              have e := congrArg (List.take m) ho2
              rw [List.take_take, Nat.min_eq_left (by omega)] at e
              exact e.symm)
            rw [← this, hlen]
        show Sum.inl m = Sum.inl o.length
        rw [this]
    rw [if_neg hi]
    by_cases hp : preO W m = true
    · rw [if_pos hp]
      refine openG_eq W f (m + 1) (by omega) (by omega) fun k h2 h3 => ?_
      by_cases e : k = m
      · rw [e]
        exact ⟨hi, hp⟩
      · exact hk k h2 (by omega)
    · rw [if_neg hp]
      have hw : whole W = [] := List.filter_eq_nil_iff.mpr fun o ho hq => by
        have hq := of_decide_eq_true hq
        have hl := whole_len hq
        have h4 := opens_len4 o ho
        by_cases hlt : o.length < m
        · exact (hk o.length h4.1 hlt).1 ((in_iff W _).mpr (by rw [hq]; exact ho))
        · refine hp (List.any_eq_true.mpr ⟨o, ho, decide_eq_true ?_⟩)
          have e := congrArg (List.take m) hq
          rw [List.take_take, Nat.min_eq_left (by omega)] at e
          exact e
      have hf : (List.range W.length).find? (fun i => decide (preL W (1 + i) = [])) = some (m - 1) := List.find?_range_eq_some.mpr ⟨by
        rw [show 1 + (m - 1) = m by omega]
        refine decide_eq_true (Decidable.byContradiction fun z => hp ((pre_iff W m).mpr z)), List.mem_range.mpr (by omega), fun k hk2 => by
        rw [decide_eq_false ((pre_iff W _).mp (hk (1 + k) (by omega) (by omega)).2)]
        rfl⟩
      unfold openL
      rw [hw, hf]
theorem openL_eq (W : List Str) : openL W = openF W := (openG_eq W _ 1 (by omega) (by omega) fun k h1 h2 => by omega).symm
/-! ### the going through the items -/
def wsOf (hand : Bool) : List Str := if hand = true then wNotB else wNotW
def bE (o : Nat) (ws : List Str) (e i : Nat) (x : Ent) : Bool := badP o ws e i x.1 (bsE x) x.2.2.2
def firstB (o : Nat) (ws : List Str) (e : Nat) : Nat → List Ent → Option Nat
  | _, [] => none
  | i, x :: r => if bE o ws e i x = true then some i else firstB o ws e (i + 1) r
theorem firstB_app (o : Nat) (ws : List Str) (e : Nat) : ∀ (A B : List Ent) (i : Nat), firstB o ws e i (A ++ B) = (match firstB o ws e i A with | some n => some n | none => firstB o ws e (i + A.length) B)
  | [], B, i => rfl
  | x :: r, B, i => by
    show (if bE o ws e i x = true then some i else firstB o ws e (i + 1) (r ++ B)) = (match (if bE o ws e i x = true then some i else firstB o ws e (i + 1) r) with | some n => some n | none => firstB o ws e (i + (r.length + 1)) B)
    by_cases h : bE o ws e i x = true
    · rw [if_pos h, if_pos h]
    · rw [if_neg h, if_neg h, firstB_app o ws e r B (i + 1), show i + (r.length + 1) = i + 1 + r.length by omega]
theorem firstB_spec (o : Nat) (ws : List Str) (e : Nat) : ∀ (L : List Ent) (i : Nat), match firstB o ws e i L with
    | none => ∀ (k : Nat) x, L[k]? = some x → bE o ws e (i + k) x = false
    | some n => ∃ (k : Nat) (x : Ent), n = i + k ∧ L[k]? = some x ∧ bE o ws e n x = true ∧ ∀ (j : Nat) y, j < k → L[j]? = some y → bE o ws e (i + j) y = false
  | [], i => fun k x h => nomatch h
  | x :: r, i => by
    show match (if bE o ws e i x = true then some i else firstB o ws e (i + 1) r) with
      | none => ∀ (k : Nat) y, (x :: r)[k]? = some y → bE o ws e (i + k) y = false
      | some n => ∃ (k : Nat) (y : Ent), n = i + k ∧ (x :: r)[k]? = some y ∧ bE o ws e n y = true ∧ ∀ (j : Nat) z, j < k → (x :: r)[j]? = some z → bE o ws e (i + j) z = false
    by_cases h : bE o ws e i x = true
    · rw [if_pos h]
      exact ⟨0, x, rfl, rfl, h, fun j y hj => by omega⟩
    · rw [if_neg h]
      have ih := firstB_spec o ws e r (i + 1)
      cases hf : firstB o ws e (i + 1) r with
      | none =>
        rw [hf] at ih
        intro k y hk
        cases k with
        | zero =>
          obtain rfl := Option.some.inj hk
          exact bf h
        | succ k =>
          have := ih k y hk
          rw [show i + (k + 1) = i + 1 + k by omega]
          exact this
      | some n =>
        rw [hf] at ih
        obtain ⟨k, y, h1, h2, h3, h4⟩ := ih
        refine ⟨k + 1, y, by omega, h2, h3, fun j z hj hz => ?_⟩
        cases j with
        | zero =>
          obtain rfl := Option.some.inj hz
          exact bf h
        | succ j =>
          have := h4 j z (by omega) hz
          rw [show i + (j + 1) = i + 1 + j by omega]
          exact this
theorem badI_eq (o : Nat) (ws : List Str) (ds : List PyData) (i : Nat) : badI o ws ds i = (match (ents ds)[i]? with | some x => bE o ws (spread ds).length i x | none => false) := by
  unfold badI gAt
  cases (ents ds)[i]? <;> rfl
theorem badF_first (o : Nat) (ws : List Str) (ds : List PyData) : badF o ws ds = firstB o ws (spread ds).length 0 (ents ds) := by
  have hs := firstB_spec o ws (spread ds).length (ents ds) 0
  have hl : (ents ds).length = (spread ds).length := entO_len _ ds 0 ff3
  cases hf : firstB o ws (spread ds).length 0 (ents ds) with
  | none =>
    rw [hf] at hs
    refine List.find?_eq_none.mpr fun i hi => ?_
    have hi := List.mem_range.mp hi
    have hg : (ents ds)[i]? = some ((ents ds)[i]'(by omega)) := List.getElem?_eq_getElem (by omega)
    rw [badI_eq, hg]
    have := hs i _ hg
    rw [Nat.zero_add] at this
    show ¬ bE o ws (spread ds).length i _ = true
    rw [this]
    decide
  | some n =>
    rw [hf] at hs
    obtain ⟨k, x, h1, h2, h3, h4⟩ := hs
    rw [Nat.zero_add] at h1
    subst h1
    refine List.find?_range_eq_some.mpr ⟨?_, List.mem_range.mpr (by have := (List.getElem?_eq_some_iff.mp h2).1; omega), fun j hj => ?_⟩
    · rw [badI_eq, h2]
      exact h3
    · have hg : (ents ds)[j]? = some ((ents ds)[j]'(by have := (List.getElem?_eq_some_iff.mp h2).1; omega)) := List.getElem?_eq_getElem _
      rw [badI_eq, hg]
      have := h4 j _ hj hg
      rw [Nat.zero_add] at this
      show (!bE o ws (spread ds).length j _) = true
      rw [this]
      rfl
def stepD (w : Str) (s : St3) (last : Bool) : Bool := if w ∈ (["look", "hold", "try"] : List Str) then true else if w = "let" then !s.1 || (s.2.1 || (s.2.2 || !last)) else if w ∈ (["enter", "leave"] : List Str) then s.2.1 != decide (w = "leave") else decide (w ∈ (["lock", "unlock"] : List Str)) && (s.2.2 != decide (w = "unlock"))
theorem stepW_eq (d : PyData) (s : St3) (b : Bool) : stepW d s b = stepD (headW d) s b := rfl
def bW (hand : Bool) (w : Str) (s : St3) (en lo : Bool) : Bool := decide (w ∈ wsOf hand) || (!(if w = "let" then lo else may s.2.1 s.2.2 w) || (en && badS (stB s w)))
theorem bE_eq {o i : Nat} (hand : Bool) (e : Nat) (x : Ent) (h : o ≤ i) : bE o (wsOf hand) e i x = bW hand (headW x.1) x.2.2.2 (decide (e ∈ bsE x)) (decide (bsE x = [e])) := by
  unfold bE badP bW mayB endB badS
  rw [decide_eq_true h, Bool.true_and]
theorem w_last : ∀ w ∈ wAll, w ≠ "ask" → ∀ b1 b2 hand : Bool, (stepD w (hand, b1, b2) true || badS (stB (hand, b1, b2) w)) = bW hand w (hand, b1, b2) true true := by decide +kernel
theorem w_mid : ∀ w ∈ wAll, w ≠ "ask" → ∀ b1 b2 hand : Bool, stepD w (hand, b1, b2) false = bW hand w (hand, b1, b2) false false := by decide +kernel
theorem w_keep : ∀ w ∈ wAll, w ≠ "ask" → ∀ b1 b2 hand : Bool, stepD w (hand, b1, b2) false = false → (stB (hand, b1, b2) w).1 = hand := by decide +kernel
theorem w_ask : ∀ b0 b1 b2 hand lo b : Bool, bW hand "ask" (b0, b1, b2) false lo = false ∧ bW hand "ask" (b0, b1, b2) true lo = badS (b0, b1, b2) ∧ stepD "ask" (b0, b1, b2) b = false ∧ stB (b0, b1, b2) "ask" = (b0, b1, b2) := by decide +kernel
theorem inW_ge : ∀ (w : List PyData) (s : St3) (m : Nat), ∀ x ∈ inW s m w, m ≤ x
  | [], _, _, _, h => nomatch h
  | d :: r, s, m, x, h => by
    have h : x ∈ (if stepW d s r.isEmpty = true then [m] else []) ++ inW (stB s (headW d)) (m + 1) r := h
    rcases List.mem_append.mp h with h | h
    · split at h
      · rw [List.mem_singleton.mp h]
        exact Nat.le_refl _
      · cases h
    · have := inW_ge r _ _ x h
      omega
theorem outW_ge (o : Nat) : ∀ (ds : List PyData) (idx : Nat) (s : St3) (m : Nat), ∀ x ∈ outW o idx s m ds, m ≤ x
  | [], _, _, _, _, h => nomatch h
  | d :: r, idx, s, m, x, h => by
    unfold outW at h
    rcases List.mem_append.mp h with h | h
    · rcases List.mem_append.mp h with h | h
      · split at h
        · rw [List.mem_singleton.mp h]
          exact Nat.le_refl _
        · cases h
      · rcases List.mem_append.mp h with h | h
        · have := inW_ge _ _ _ x h
          omega
        · split at h
          · rw [List.mem_singleton.mp h]
            omega
          · cases h
    · have := outW_ge o r _ _ _ x h
      omega
theorem lastN_ge : ∀ (r : List PyData) (l m : Nat), r ≠ [] → m ≤ lastN l m r
  | [], _, _, h => absurd rfl h
  | [d], l, m, _ => Nat.le_refl m
  | d :: a :: b, l, m, _ => by
    have := lastN_ge (a :: b) m (m + 1 + (way d).length) (by simp)
    show m ≤ lastN m (m + 1 + (way d).length) (a :: b)
    omega
theorem FirstIs.here {m : Nat} {W : List Nat} (h : ∀ x ∈ W, m ≤ x) : FirstIs (m :: W) (some m) := ⟨List.mem_cons_self, fun x hx => by
  rcases List.mem_cons.mp hx with rfl | hx
  · exact Nat.le_refl _
  · exact h x hx⟩
theorem bsE_one {x : Ent} (h : headW x.1 ≠ "ask") : bsE x = [x.2.1] := if_neg h
theorem bsE_two {x : Ent} (h : headW x.1 = "ask") : bsE x = [x.2.1, x.2.2.1] := if_pos h
/-- a way out -/
theorem inner_first (hand : Bool) (o e : Nat) : ∀ (w : List PyData) (s : St3) (m : Nat), (∀ z ∈ w, headW z ∈ wAll ∧ headW z ≠ "ask") → w ≠ [] → s.1 = hand → o ≤ m → m + w.length ≤ e →
    FirstIs (inW s m w ++ (if badS (foldS s w) = true then [m + w.length - 1] else [])) (firstB o (wsOf hand) e m (entI e m s w))
  | [], _, _, _, h, _, _, _ => absurd rfl h
  | [d], s, m, hw, _, hs, ho, he => by
    obtain ⟨h1, h2⟩ := hw d List.mem_cons_self
    obtain ⟨b0, b1, b2⟩ := s
    have hs : b0 = hand := hs
    subst hs
    have e1 : bE o (wsOf b0) e m (d, e, e, (b0, b1, b2)) = bW b0 (headW d) (b0, b1, b2) true true := by
      rw [bE_eq b0 e _ ho, bsE_one h2]
      show bW b0 (headW d) (b0, b1, b2) (decide (e ∈ [e])) (decide ([e] = [e])) = _
      rw [decide_eq_true (List.mem_singleton.mpr rfl), decide_eq_true rfl]
    have e2 := w_last _ h1 h2 b1 b2 b0
    show FirstIs (((if stepW d (b0, b1, b2) true = true then [m] else []) ++ []) ++ (if badS (stB (b0, b1, b2) (headW d)) = true then [m + 1 - 1] else [])) (if bE o (wsOf b0) e m (d, e, e, (b0, b1, b2)) = true then some m else none)
    rw [e1, ← e2, stepW_eq, List.append_nil, Nat.add_sub_cancel]
    cases stepD (headW d) (b0, b1, b2) true <;> cases badS (stB (b0, b1, b2) (headW d))
    · exact rfl
    · exact FirstIs.here fun x hx => by cases hx
    · exact FirstIs.here fun x hx => by cases hx
    · exact FirstIs.here fun x hx => by rw [List.mem_singleton.mp hx]; exact Nat.le_refl _
  | d :: d2 :: r, s, m, hw, _, hs, ho, he => by
    obtain ⟨h1, h2⟩ := hw d List.mem_cons_self
    obtain ⟨b0, b1, b2⟩ := s
    have hs : b0 = hand := hs
    subst hs
    have he : m + (r.length + 2) ≤ e := he
    have e1 : bE o (wsOf b0) e m (d, m + 1, m + 1, (b0, b1, b2)) = bW b0 (headW d) (b0, b1, b2) false false := by
      rw [bE_eq b0 e _ ho, bsE_one h2]
      show bW b0 (headW d) (b0, b1, b2) (decide (e ∈ [m + 1])) (decide ([m + 1] = [e])) = _
      rw [decide_eq_false (fun z => by have := List.mem_singleton.mp z; omega), decide_eq_false (fun z => by have := (List.cons.inj z).1; omega)]
    have e2 := w_mid _ h1 h2 b1 b2 b0
    have hk := w_keep _ h1 h2 b1 b2 b0
    show FirstIs (((if stepW d (b0, b1, b2) false = true then [m] else []) ++ inW (stB (b0, b1, b2) (headW d)) (m + 1) (d2 :: r)) ++ (if badS (foldS (stB (b0, b1, b2) (headW d)) (d2 :: r)) = true then [m + (r.length + 2) - 1] else [])) (if bE o (wsOf b0) e m (d, m + 1, m + 1, (b0, b1, b2)) = true then some m else firstB o (wsOf b0) e (m + 1) (entI e (m + 1) (stB (b0, b1, b2) (headW d)) (d2 :: r)))
    rw [e1, ← e2, stepW_eq]
    cases hst : stepD (headW d) (b0, b1, b2) false
    · have ih := inner_first b0 o e (d2 :: r) (stB (b0, b1, b2) (headW d)) (m + 1) (fun z hz => hw z (List.mem_cons_of_mem _ hz)) (by simp) (hk hst) (by omega) (by show m + 1 + (r.length + 1) ≤ e; omega)
      rw [show m + 1 + (d2 :: r).length - 1 = m + (r.length + 2) - 1 by show m + 1 + (r.length + 1) - 1 = _; omega] at ih
      exact ih
    · refine FirstIs.here fun x hx => ?_
      rcases List.mem_append.mp hx with hx | hx
      · have := inW_ge _ _ _ x hx
        omega
      · split at hx
        · rw [List.mem_singleton.mp hx]
          omega
        · cases hx
theorem FirstIs.app {A B : List Nat} {ra rb : Option Nat} (ha : FirstIs A ra) (hb : FirstIs B rb) (h : ∀ n, ra = some n → ∀ b ∈ B, n ≤ b) : FirstIs (A ++ B) (match (generalizing := false) ra with | some n => some n | none => rb) := by
  cases ra with
  | none =>
    have ha : A = [] := ha
    rw [ha]
    exact hb
  | some n =>
    refine ⟨List.mem_append_left _ ha.1, fun x hx => ?_⟩
    rcases List.mem_append.mp hx with hx | hx
    · exact ha.2 x hx
    · exact h n rfl x hx
theorem spread_pos {r : List PyData} (h : r ≠ []) : 1 ≤ (spread r).length := by
  cases r with
  | nil => exact absurd rfl h
  | cons d r =>
    rw [spread_cons]
    simp
theorem outer_first (hand : Bool) (o e : Nat) : ∀ (r : List PyData) (idx l : Nat) (s : St3) (m : Nat), (∀ d ∈ r, itOk d) → r ≠ [] → s.1 = hand → o ≤ idx → o ≤ m → m + (spread r).length = e →
    FirstIs (outW o idx s m r ++ (if badS (foldS s r) = true then [lastN l m r] else [])) (firstB o (wsOf hand) e m (entO e m s r))
  | [], _, _, _, _, _, h, _, _, _, _ => absurd rfl h
  | d :: r, idx, l, s, m, hok, _, hs, hi, ho, he => by
    obtain ⟨⟨hit, hall, _, _⟩, hway⟩ := itOk_form (hok d List.mem_cons_self)
    have hokr : ∀ d ∈ r, itOk d := fun z hz => hok z (List.mem_cons_of_mem _ hz)
    have hwz : ∀ z ∈ way d, headW z ∈ wAll ∧ headW z ≠ "ask" := fun z hz => ⟨(hway z hz).1.2.1, (hway z hz).1.2.2.2 (hway z hz).2⟩
    obtain ⟨b0, b1, b2⟩ := s
    have hs : b0 = hand := hs
    subst hs
    rw [spread_cons, List.length_cons, List.length_append] at he
    have eO : entO e m (b0, b1, b2) (d :: r) = (d, m + 1 + (way d).length, (if (way d).length = 0 then e else m + 1), (b0, b1, b2)) :: (entI e (m + 1) (stB (b0, b1, b2) (headW d)) (way d) ++ entO e (m + 1 + (way d).length) (stB (b0, b1, b2) (headW d)) r) := rfl
    have eF : ∀ x L, firstB o (wsOf b0) e m (x :: L) = if bE o (wsOf b0) e m x = true then some m else firstB o (wsOf b0) e (m + 1) L := fun _ _ => rfl
    have eW : outW o idx (b0, b1, b2) m (d :: r) = ((if (decide (o ≤ idx) && stepW d (b0, b1, b2) r.isEmpty) = true then [m] else []) ++ (inW (stB (b0, b1, b2) (headW d)) (m + 1) (way d) ++ (if (decide (headW d = "ask") && badS (foldS (stB (b0, b1, b2) (headW d)) (way d))) = true then [m + (way d).length] else []))) ++ outW o (idx + 1) (stB (b0, b1, b2) (headW d)) (m + 1 + (way d).length) r := rfl
    have eS : foldS (b0, b1, b2) (d :: r) = foldS (stB (b0, b1, b2) (headW d)) r := rfl
    have eL : lastN l m (d :: r) = lastN m (m + 1 + (way d).length) r := rfl
    rw [eO, eF, eW, eS, eL, decide_eq_true hi, Bool.true_and]
    by_cases hk : headW d = "ask"
    · obtain ⟨wa1, wa2, wa3, wa4⟩ := w_ask b0 b1 b2 b0 (decide (bsE (d, m + 1 + (way d).length, (if (way d).length = 0 then e else m + 1), (b0, b1, b2)) = [e])) r.isEmpty
      have eE := bE_eq (o := o) (i := m) b0 e (d, m + 1 + (way d).length, (if (way d).length = 0 then e else m + 1), (b0, b1, b2)) ho
      have hbs : bsE (d, m + 1 + (way d).length, (if (way d).length = 0 then e else m + 1), (b0, b1, b2)) = [m + 1 + (way d).length, (if (way d).length = 0 then e else m + 1)] := bsE_two hk
      have eE2 : bE o (wsOf b0) e m (d, m + 1 + (way d).length, (if (way d).length = 0 then e else m + 1), (b0, b1, b2)) = (decide (e ∈ [m + 1 + (way d).length, (if (way d).length = 0 then e else m + 1)]) && badS (b0, b1, b2)) := by
        rw [eE]
        show bW b0 (headW d) (b0, b1, b2) (decide (e ∈ bsE _)) (decide (bsE _ = [e])) = _
        rw [hk]
        rw [hbs] at wa1 wa2 ⊢
        cases decide (e ∈ [m + 1 + (way d).length, (if (way d).length = 0 then e else m + 1)])
        · rw [wa1]
          rfl
        · rw [wa2]
          rfl
      rw [eE2, stepW_eq, hk, wa3, wa4, decide_eq_true rfl, Bool.true_and, if_neg Bool.false_ne_true, List.nil_append]
      clear eE eE2 wa1 wa2 wa3 eO eF eW eS eL hbs hway hok
      generalize way d = w at hwz he ⊢
      have inn : w ≠ [] → FirstIs (inW (b0, b1, b2) (m + 1) w ++ (if badS (foldS (b0, b1, b2) w) = true then [m + w.length] else [])) (firstB o (wsOf b0) e (m + 1) (entI e (m + 1) (b0, b1, b2) w)) := fun hne => by
        have := inner_first b0 o e w (b0, b1, b2) (m + 1) hwz hne rfl (by omega) (by omega)
        rw [show m + 1 + w.length - 1 = m + w.length by omega] at this
        exact this
      have ge1 : ∀ x ∈ inW (b0, b1, b2) (m + 1) w ++ (if badS (foldS (b0, b1, b2) w) = true then [m + w.length] else []), m ≤ x := fun x hx => by
        rcases List.mem_append.mp hx with hx | hx
        · have := inW_ge _ _ _ x hx
          omega
        · split at hx
          · rw [List.mem_singleton.mp hx]
            omega
          · cases hx
      rw [firstB_app, entI_len]
      by_cases hr : r = []
      · subst hr
        have hen : m + 1 + w.length = e := by
          have : (spread ([] : List PyData)).length = 0 := rfl
          omega
        rw [decide_eq_true (show e ∈ [m + 1 + w.length, (if w.length = 0 then e else m + 1)] by rw [hen]; exact List.mem_cons_self), Bool.true_and]
        show FirstIs (((inW (b0, b1, b2) (m + 1) w ++ (if badS (foldS (b0, b1, b2) w) = true then [m + w.length] else [])) ++ []) ++ (if badS (b0, b1, b2) = true then [m] else [])) (if badS (b0, b1, b2) = true then some m else (match firstB o (wsOf b0) e (m + 1) (entI e (m + 1) (b0, b1, b2) w) with | some n => some n | none => none))
        rw [List.append_nil]
        cases hb : badS (b0, b1, b2)
        · show FirstIs ((inW (b0, b1, b2) (m + 1) w ++ (if badS (foldS (b0, b1, b2) w) = true then [m + w.length] else [])) ++ []) (match firstB o (wsOf b0) e (m + 1) (entI e (m + 1) (b0, b1, b2) w) with | some n => some n | none => none)
          rw [List.append_nil]
          by_cases hw : w = []
          · subst hw
            show FirstIs ([] ++ (if badS (b0, b1, b2) = true then [m + 0] else [])) none
            rw [hb]
            rfl
          · have := inn hw
            cases hf : firstB o (wsOf b0) e (m + 1) (entI e (m + 1) (b0, b1, b2) w) <;> (rw [hf] at this; exact this)
        · refine ⟨List.mem_append_right _ List.mem_cons_self, fun x hx => ?_⟩
          rcases List.mem_append.mp hx with hx | hx
          · exact ge1 x hx
          · rw [List.mem_singleton.mp hx]
            exact Nat.le_refl _
      · have hpos := spread_pos hr
        have geR : ∀ x ∈ outW o (idx + 1) (b0, b1, b2) (m + 1 + w.length) r ++ (if badS (foldS (b0, b1, b2) r) = true then [lastN m (m + 1 + w.length) r] else []), m + 1 + w.length ≤ x := fun x hx => by
          rcases List.mem_append.mp hx with hx | hx
          · exact outW_ge _ _ _ _ _ x hx
          · split at hx
            · rw [List.mem_singleton.mp hx]
              exact lastN_ge _ _ _ hr
            · cases hx
        have ih := outer_first b0 o e r (idx + 1) m (b0, b1, b2) (m + 1 + w.length) hokr hr rfl (by omega) (by omega) (by omega)
        rw [List.append_assoc]
        by_cases hw : w = []
        · subst hw
          have e0 : decide (e ∈ [m + 1 + ([] : List PyData).length, (if ([] : List PyData).length = 0 then e else m + 1)]) = true := decide_eq_true (List.mem_cons_of_mem _ (List.mem_singleton.mpr rfl))
          rw [e0, Bool.true_and]
          show FirstIs (([] ++ (if badS (b0, b1, b2) = true then [m + 0] else [])) ++ _) (if badS (b0, b1, b2) = true then some m else firstB o (wsOf b0) e (m + 1 + 0) (entO e (m + 1 + 0) (b0, b1, b2) r))
          cases hb : badS (b0, b1, b2)
          · exact ih
          · refine FirstIs.here fun x hx => ?_
            have := geR x hx
            omega
        · have hwl : w.length ≠ 0 := fun z => hw (List.length_eq_zero_iff.mp z)
          have e0 : decide (e ∈ [m + 1 + w.length, (if w.length = 0 then e else m + 1)]) = false := decide_eq_false fun z => by
            rw [if_neg hwl] at z
            rcases List.mem_cons.mp z with z | z
            · omega
            · have := List.mem_singleton.mp z
              omega
          rw [e0, Bool.false_and, if_neg Bool.false_ne_true]
          refine FirstIs.app (inn hw) ih fun n hn b hb => ?_
          have hsp := firstB_spec o (wsOf b0) e (entI e (m + 1) (b0, b1, b2) w) (m + 1)
          rw [hn] at hsp
          obtain ⟨k, x, rfl, hk2, _⟩ := hsp
          have := (List.getElem?_eq_some_iff.mp hk2).1
          rw [entI_len] at this
          have := geR b hb
          omega
    · have hw : way d = [] := by
        rcases hit.way with ⟨_, _, _, _, h⟩ | ⟨m0, os, rfl, _⟩
        · exact h
        · exact absurd rfl hk
      clear eO eF eW eS eL
      rw [hw, decide_eq_false hk, Bool.false_and]
      rw [hw] at he
      have he : m + (0 + (spread r).length + 1) = e := he
      have eI : entI e (m + 1) (stB (b0, b1, b2) (headW d)) [] = [] := rfl
      have eIW : inW (stB (b0, b1, b2) (headW d)) (m + 1) [] = [] := rfl
      rw [eI, eIW, if_neg Bool.false_ne_true]
      show FirstIs (((if stepW d (b0, b1, b2) r.isEmpty = true then [m] else []) ++ ([] ++ [])) ++ outW o (idx + 1) (stB (b0, b1, b2) (headW d)) (m + 1) r ++ (if badS (foldS (stB (b0, b1, b2) (headW d)) r) = true then [lastN m (m + 1) r] else [])) (if bE o (wsOf b0) e m (d, m + 1, e, (b0, b1, b2)) = true then some m else firstB o (wsOf b0) e (m + 1) (entO e (m + 1) (stB (b0, b1, b2) (headW d)) r))
      rw [List.append_nil, List.append_nil, stepW_eq, bE_eq b0 e _ ho, bsE_one hk, List.append_assoc]
      by_cases hr : r = []
      · subst hr
        have hen : m + 1 = e := by
          have : (spread ([] : List PyData)).length = 0 := rfl
          omega
        show FirstIs ((if stepD (headW d) (b0, b1, b2) true = true then [m] else []) ++ ([] ++ (if badS (stB (b0, b1, b2) (headW d)) = true then [m] else []))) (if bW b0 (headW d) (b0, b1, b2) (decide (e ∈ [m + 1])) (decide ([m + 1] = [e])) = true then some m else none)
        rw [decide_eq_true (show e ∈ [m + 1] by rw [hen]; exact List.mem_cons_self), decide_eq_true (show [m + 1] = [e] by rw [hen]), ← w_last _ hall hk b1 b2 b0]
        cases stepD (headW d) (b0, b1, b2) true <;> cases badS (stB (b0, b1, b2) (headW d))
        · exact rfl
        · exact FirstIs.here fun x hx => by cases hx
        · exact FirstIs.here fun x hx => by cases hx
        · exact FirstIs.here fun x hx => by rw [List.mem_singleton.mp hx]; exact Nat.le_refl _
      · have hpos := spread_pos hr
        have hem : r.isEmpty = false := by
          cases r with
          | nil => exact absurd rfl hr
          | cons a b => rfl
        rw [hem]
        show FirstIs ((if stepD (headW d) (b0, b1, b2) false = true then [m] else []) ++ (outW o (idx + 1) (stB (b0, b1, b2) (headW d)) (m + 1) r ++ (if badS (foldS (stB (b0, b1, b2) (headW d)) r) = true then [lastN m (m + 1) r] else []))) (if bW b0 (headW d) (b0, b1, b2) (decide (e ∈ [m + 1])) (decide ([m + 1] = [e])) = true then some m else firstB o (wsOf b0) e (m + 1) (entO e (m + 1) (stB (b0, b1, b2) (headW d)) r))
        rw [decide_eq_false (fun z => by have := List.mem_singleton.mp z; omega), decide_eq_false (fun z => by have := (List.cons.inj z).1; omega), ← w_mid _ hall hk b1 b2 b0]
        have hkp := w_keep _ hall hk b1 b2 b0
        cases hst : stepD (headW d) (b0, b1, b2) false
        · exact outer_first b0 o e r (idx + 1) m (stB (b0, b1, b2) (headW d)) (m + 1) hokr hr (hkp hst) (by omega) (by omega) (by omega)
        · refine FirstIs.here fun x hx => ?_
          have hx : x ∈ outW o (idx + 1) (stB (b0, b1, b2) (headW d)) (m + 1) r ++ (if badS (foldS (stB (b0, b1, b2) (headW d)) r) = true then [lastN m (m + 1) r] else []) := hx
          rcases List.mem_append.mp hx with hx | hx
          · have := outW_ge _ _ _ _ _ x hx
            omega
          · split at hx
            · rw [List.mem_singleton.mp hx]
              have := lastN_ge r m (m + 1) hr
              omega
            · cases hx
theorem rule_work {ds : List PyData} (hok : ∀ d ∈ ds, itOk d) (h1 : 1 ≤ (spread ds).length) : FirstIs (ruleW 0 ds) (badF 0 wNotW ds) := by
  have hne : ds ≠ [] := by
    rintro rfl
    exact absurd h1 (by decide)
  rw [badF_first]
  exact outer_first false 0 (spread ds).length ds 0 0 ff3 0 hok hne rfl (Nat.le_refl _) (Nat.le_refl _) (Nat.zero_add _)
def PrefOk : St3 → List Str → Bool
  | s, [] => s.1 && !badS s
  | s, w :: r => (may s.2.1 s.2.2 w && (!decide (w = "let") && (!decide (w = "ask") && (!r.isEmpty || !badS (stB s w))))) && PrefOk (stB s w) r
theorem opens_pref : ∀ op ∈ opens, PrefOk ff3 op = true := by decide +kernel
theorem openG_inl (W : List Str) : ∀ f m o, openG W f m = .inl o → inO W o = true ∧ o < m + f
  | 0, m, o, h => nomatch h
  | f + 1, m, o, h => by
    have h : (if inO W m = true then Sum.inl m else if preO W m = true then openG W f (m + 1) else Sum.inr (some (m - 1))) = .inl o := h
    by_cases hi : inO W m = true
    · rw [if_pos hi] at h
      cases h
      exact ⟨hi, by omega⟩
    · rw [if_neg hi] at h
      by_cases hp : preO W m = true
      · rw [if_pos hp] at h
        obtain ⟨h1, h2⟩ := openG_inl W f (m + 1) o h
        exact ⟨h1, by omega⟩
      · rw [if_neg hp] at h
        cases h
theorem pref_first (hand : Bool) (o e : Nat) (r : List PyData) : ∀ (p : List PyData) (l : Nat) (s : St3) (m : Nat), (∀ d ∈ p, ItG d) → PrefOk s (p.map headW) = true → m + p.length = o → o + (spread r).length = e →
    (foldS s p).1 = true ∧ badS (foldS s p) = false ∧ firstB o (wsOf hand) e m (entO e m s (p ++ r)) = firstB o (wsOf hand) e o (entO e o (foldS s p) r) ∧ outW o m s m (p ++ r) = outW o o (foldS s p) o r ∧ foldS s (p ++ r) = foldS (foldS s p) r ∧ ∃ l', lastN l m (p ++ r) = lastN l' o r
  | [], l, s, m, _, hp, hm, _ => by
    have hp : (s.1 && !badS s) = true := hp
    rw [Bool.and_eq_true, Bool.not_eq_true'] at hp
    have hm : m = o := hm
    subst hm
    exact ⟨hp.1, hp.2, rfl, rfl, rfl, l, rfl⟩
  | d :: p, l, s, m, hg, hp, hm, he => by
    have hp : ((may s.2.1 s.2.2 (headW d) && (!decide (headW d = "let") && (!decide (headW d = "ask") && (!(p.map headW).isEmpty || !badS (stB s (headW d)))))) && PrefOk (stB s (headW d)) (p.map headW)) = true := hp
    simp only [Bool.and_eq_true, Bool.not_eq_true', decide_eq_false_iff_not] at hp
    obtain ⟨⟨h1, h2, h3, h4⟩, h5⟩ := hp
    have hw : way d = [] := by
      rcases (hg d List.mem_cons_self).1.way with ⟨_, _, _, _, h⟩ | ⟨m0, os, rfl, _⟩
      · exact h
      · exact absurd rfl h3
    have hm : m + (p.length + 1) = o := hm
    obtain ⟨i1, i2, i3, i4, i5, l', i6⟩ := pref_first hand o e r p m (stB s (headW d)) (m + 1) (fun z hz => hg z (List.mem_cons_of_mem _ hz)) h5 (by omega) he
    have hb : bE o (wsOf hand) e m (d, m + 1 + (way d).length, (if (way d).length = 0 then e else m + 1), s) = false := by
      unfold bE badP
      rw [bsE_one h3, decide_eq_false (show ¬ o ≤ m by omega), Bool.false_and, Bool.false_or]
      show (!mayB e d [m + 1 + (way d).length] s || endB e d [m + 1 + (way d).length] s) = false
      rw [hw]
      unfold mayB endB
      rw [if_neg h2, h1]
      show (false || (decide (e ∈ [m + 1]) && badS (stB s (headW d)))) = false
      rw [Bool.false_or]
      by_cases hpe : p = []
      · subst hpe
        rw [Bool.or_eq_true] at h4
        rcases h4 with h4 | h4
        · cases h4
        · rw [Bool.not_eq_true'] at h4
          rw [h4, Bool.and_false]
      · have : p.length ≠ 0 := fun z => hpe (List.length_eq_zero_iff.mp z)
        rw [decide_eq_false (fun z => by have := List.mem_singleton.mp z; omega), Bool.false_and]
    refine ⟨i1, i2, ?_, ?_, i5, l', ?_⟩
    · have eO : entO e m s (d :: p ++ r) = (d, m + 1 + (way d).length, (if (way d).length = 0 then e else m + 1), s) :: (entI e (m + 1) (stB s (headW d)) (way d) ++ entO e (m + 1 + (way d).length) (stB s (headW d)) (p ++ r)) := rfl
      rw [eO]
      show (if bE o (wsOf hand) e m (d, m + 1 + (way d).length, (if (way d).length = 0 then e else m + 1), s) = true then some m else firstB o (wsOf hand) e (m + 1) _) = _
      rw [hb, if_neg Bool.false_ne_true, hw]
      exact i3
    · have eW : outW o m s m (d :: p ++ r) = ((if (decide (o ≤ m) && stepW d s (p ++ r).isEmpty) = true then [m] else []) ++ (inW (stB s (headW d)) (m + 1) (way d) ++ (if (decide (headW d = "ask") && badS (foldS (stB s (headW d)) (way d))) = true then [m + (way d).length] else []))) ++ outW o (m + 1) (stB s (headW d)) (m + 1 + (way d).length) (p ++ r) := rfl
      rw [eW, decide_eq_false (show ¬ o ≤ m by omega), Bool.false_and, if_neg Bool.false_ne_true, decide_eq_false h3, Bool.false_and, if_neg Bool.false_ne_true, hw]
      exact i4
    · show lastN m (m + 1 + (way d).length) (p ++ r) = _
      rw [hw]
      exact i6
theorem rule_hand {ds : List PyData} {o : Nat} (hok : ∀ d ∈ ds, itOk d) (h : openF (ds.map headW) = .inl o) : FirstIs (ruleW o ds) (badF o wNotB ds) := by
  obtain ⟨h1, h2⟩ := openG_inl _ _ _ _ h
  rw [List.length_map] at h2
  have hop := (in_iff _ _).mp h1
  have hol : (ds.take o).length = o := by
    rw [List.length_take]
    omega
  have hds : ds = ds.take o ++ ds.drop o := (List.take_append_drop o ds).symm
  have hsp : (spread ds).length = o + (spread (ds.drop o)).length := by
    have hw : ∀ p : List PyData, PrefOk ff3 (p.map headW) = true → (∀ d ∈ p, ItG d) → True := fun _ _ _ => trivial
    have key : ∀ (p : List PyData) (s : St3), (∀ d ∈ p, ItG d) → PrefOk s (p.map headW) = true → (spread p).length = p.length := by
      intro p
      induction p with
      | nil => intro _ _ _; rfl
      | cons d p ih =>
        intro s hg hp
        have hp : ((may s.2.1 s.2.2 (headW d) && (!decide (headW d = "let") && (!decide (headW d = "ask") && (!(p.map headW).isEmpty || !badS (stB s (headW d)))))) && PrefOk (stB s (headW d)) (p.map headW)) = true := hp
        simp only [Bool.and_eq_true, Bool.not_eq_true', decide_eq_false_iff_not] at hp
        have hw : way d = [] := by
          rcases (hg d List.mem_cons_self).1.way with ⟨_, _, _, _, h⟩ | ⟨m0, os, rfl, _⟩
          · exact h
          · exact absurd rfl hp.1.2.2.1
        rw [spread_cons, hw, List.length_cons, List.length_append, ih _ (fun z hz => hg z (List.mem_cons_of_mem _ hz)) hp.2]
        show 0 + p.length + 1 = p.length + 1
        omega
    have k := key (ds.take o) ff3 (fun d hd => (itOk_form (hok d (List.mem_of_mem_take hd))).1) (by rw [List.map_take]; exact opens_pref _ hop)
    have e : spread ds = spread (ds.take o) ++ spread (ds.drop o) := by
      unfold spread
      rw [← List.flatMap_append, List.take_append_drop]
    rw [e, List.length_append, k, hol]
  obtain ⟨i1, i2, i3, i4, i5, l', i6⟩ := pref_first true o (spread ds).length (ds.drop o) (ds.take o) 0 ff3 0 (fun d hd => (itOk_form (hok d (List.mem_of_mem_take hd))).1) (by rw [List.map_take]; exact opens_pref _ hop) (by rw [hol, Nat.zero_add]) hsp.symm
  rw [List.take_append_drop] at i3 i4 i5 i6
  rw [badF_first]
  unfold ruleW
  rw [i4, i5, i6]
  have i3' : firstB o wNotB (spread ds).length 0 (ents ds) = firstB o (wsOf true) (spread ds).length o (entO (spread ds).length o (foldS ff3 (ds.take o)) (ds.drop o)) := i3
  rw [i3']
  by_cases hr : ds.drop o = []
  · rw [hr]
    show FirstIs ([] ++ (if badS (foldS ff3 (ds.take o)) = true then [_] else [])) none
    rw [i2]
    rfl
  · exact outer_first true o (spread ds).length (ds.drop o) o l' (foldS ff3 (ds.take o)) o (fun d hd => hok d (List.mem_of_mem_drop hd)) hr i1 (Nat.le_refl _) (Nat.le_refl _) hsp.symm
end K05

namespace K05
open PySem PySem.Spec PyProof.Rows StX L2 TL GG OO LY
abbrev sII_init : Stmt := inClass s_InvalidItem 0
abbrev s_hr_parts : Stmt := inClass s_HandRow 2
abbrev s_wr_parts : Stmt := inClass s_WorkRow 2
theorem lk1 (f : Str) (v : V) : ([(f, v)] : List (Str × V)).lookup f = some v := by simp [List.lookup]
def heardV (b : Bool) (d : PyData) : List V := match rowOf d with
  | none => [.non]
  | some ds => rsV (progF b ds)
theorem heard_none {b : Bool} {d : PyData} (h : rowOf d = none) : heardV b d = [.non] := by
  unfold heardV
  rw [h]
theorem heard_some {b : Bool} {d : PyData} {ds : List PyData} (h : rowOf d = some ds) : heardV b d = rsV (progF b ds) := by
  unfold heardV
  rw [h]
def spHeard (K : PySem.W.Frag) : Sp := fun vs H Q _ => ∃ (x : V) (d : PyData) (b : Bool), vs = [x, .bl b] ∧ Val K H x d ∧ ∀ H' l, Same H H' → H l = none → H' l = some (.lst (heardV b d)) → Q (.ref l) H'
def spDue (K : PySem.W.Frag) : Sp := fun vs H Q _ => ∃ (x : V) (ds : List PyData) (b : Bool), vs = [x, .bl b] ∧ Val K H x (.tuple ds) ∧ (numB ds).length ≤ 500 ∧ ∀ H' l, Same H H' → H l = none → H' l = some (.lst (rsV (progF b ds))) → Q (.ref l) H'
def rsD : Option (Option Nat) → List PyData
  | none => []
  | some none => [.none]
  | some (some n) => [.int (Int.ofNat n)]
theorem dp_rs {K : PySem.W.Frag} {H : Hp} : ∀ r : Option (Option Nat), DpAll K H (rsV r) (rsD r)
  | none => .nil
  | some none => .cons .non .nil
  | some (some n) => .cons (.int _) .nil
theorem rs_sh (r : Option (Option Nat)) : SeqAt.shaped (.list (rsD r)) = true := by
  match r with
  | none => rfl
  | some none => rfl
  | some (some n) => rfl
theorem isi_list (d : PyData) {K : PySem.W.Frag} : ∃ b, PySem.W.kitOne K (.type (tyName d)) (.type "list") = some b ∧ (b = true ↔ ∃ ds, d = .list ds) := by
  have f : ∀ {a b : String} {r : Bool}, kitB a b = some r → PySem.W.kitOne K (.type a) (.type b) = some r := fun h => kit_ty h
  cases d
  · exact ⟨false, f (a := "NoneType") (b := "list") (by decide +kernel), by simp⟩
  · exact ⟨false, f (a := "bool") (b := "list") (by decide +kernel), by simp⟩
  · exact ⟨false, f (a := "int") (b := "list") (by decide +kernel), by simp⟩
  · exact ⟨false, f (a := "str") (b := "list") (by decide +kernel), by simp⟩
  · exact ⟨true, f (a := "list") (b := "list") (by decide +kernel), by simp⟩
  · exact ⟨false, f (a := "tuple") (b := "list") (by decide +kernel), by simp⟩
  · exact ⟨false, f (a := "dict") (b := "list") (by decide +kernel), by simp⟩
section
variable {P : Program} {w : World} {K : PySem.W.Frag} {mg : Str → Option Value} {base : Heap} {S fS f : Addr} {fd : FuncData}
theorem ok_ii_init (F : Fun K "__init__" "InvalidItem.__init__" sII_init f fd) (T : ExT K mg "InvalidItem" "number" S fS) : FnOk P w K mg base CX0 1 f fd ["self", "number"] (spExI S "number") := by
  have sc_ii : FnScope ["self", "number"] ["self", "number"] (defScope sII_init) := ⟨rfl, rfl, rfl, by decide +kernel, rfl, by decide +kernel, by decide +kernel⟩
  refine F.ok sc_ii (fun vs H Q E h => ?_) (fun cdv A outer s H vs Q E hr h => ?_)
  · obtain ⟨a, v, rfl, _⟩ := h
    rfl
  · obtain ⟨a, v, rfl, ha, q⟩ := h
    refine ⟨_, pss_one (ps_ost (pv 0) (pv 1) rfl), ?_⟩
    exact ⟨_, rfl, _, rfl, a, S, rfl, T.o, T.no, .inl ⟨ha, fun dx h1 h2 => q dx h1 h2⟩⟩
end
section
variable {P : Program} {w : World} {K : PySem.W.Frag} {mg : Str → Option Value} {base : Heap} {lt0 lt1 lt2 lt3 lt4 : Tok} {t0 t1 t2 t3 t4 t5 t6 t7 t8 tF tO dC : Addr}
theorem sc_hr_parts : FnScope ["self"] ["self"] (defScope s_hr_parts) := ⟨rfl, rfl, rfl, by decide +kernel, rfl, by decide +kernel, by decide +kernel⟩
theorem ok_hr_parts {C f : Addr} {fd : FuncData} (F : Fun K "parts" "HandRow.parts" s_hr_parts f fd) (CT : RwT K mg "HandRow" C) : FnOk P w K mg base CX0 1 f fd ["self"] (getSp C "_parts") := by
  refine F.ok sc_hr_parts (fun vs H Q E h => ?_) (fun cdv A outer s H vs Q E hr h => ?_)
  · obtain ⟨a, dx, fs, v, rfl, _⟩ := h
    rfl
  · obtain ⟨a, dx, fs, v, rfl, ha, hl, q⟩ := h
    refine ⟨_, pss_one (ps_ret (pe_fld (pv 0) rfl)), ?_⟩
    exact ⟨_, rfl, a, C, dx, fs, v, rfl, ha, CT.cl, CT.nP, hl, q⟩
theorem sc_wr_parts : FnScope ["self"] ["self"] (defScope s_wr_parts) := ⟨rfl, rfl, rfl, by decide +kernel, rfl, by decide +kernel, by decide +kernel⟩
theorem ok_wr_parts {C f : Addr} {fd : FuncData} (F : Fun K "parts" "WorkRow.parts" s_wr_parts f fd) (CT : RwT K mg "WorkRow" C) : FnOk P w K mg base CX0 1 f fd ["self"] (getSp C "_parts") := by
  refine F.ok sc_wr_parts (fun vs H Q E h => ?_) (fun cdv A outer s H vs Q E hr h => ?_)
  · obtain ⟨a, dx, fs, v, rfl, _⟩ := h
    rfl
  · obtain ⟨a, dx, fs, v, rfl, ha, hl, q⟩ := h
    refine ⟨_, pss_one (ps_ret (pe_fld (pv 0) rfl)), ?_⟩
    exact ⟨_, rfl, a, C, dx, fs, v, rfl, ha, CT.cl, CT.nP, hl, q⟩
theorem sc_l_heard : FnScope ["_law_items", "_law_is_hand", "_law_row", "e"] ["_law_items", "_law_is_hand"] (defScope s_l_heard) := ⟨rfl, rfl, rfl, by decide +kernel, rfl, by decide +kernel, by decide +kernel⟩
theorem ok_l_heard {f : Addr} {fd : FuncData} (F : Fun K "_law_heard" "_law_heard" s_l_heard f fd) (T : Txt K mg lt0 lt1 lt2 lt3 lt4 t0 t1 t2 t3 t4 t5 t6 t7 t8 tF tO dC) {S fS CL : Addr} (TS : ExT K mg "InvalidItem" "number" S fS) {Ch pph fPh smh fOh : Addr} {mch : Value} {fdPh : FuncData} (CTh : RwT K mg "HandRow" Ch) (RDh : ClX.CRead K Ch mch) (SMh : SMet K Ch mch "of" smh fOh) (ROh : FnR P w K mg base (L2.CX P w) 10 fOh (spHrOf K Ch CL S)) (PPh : PropOf K Ch "parts" pph fPh) (bPh : Binds K fdPh ["self"] []) (GPh : FnOk P w K mg base CX0 1 fPh fdPh ["self"] (getSp Ch "_parts")) {Cw ppw fPw smw fOw : Addr} {mcw : Value} {fdPw : FuncData} (CTw : RwT K mg "WorkRow" Cw) (RDw : ClX.CRead K Cw mcw) (SMw : SMet K Cw mcw "of" smw fOw) (ROw : FnR P w K mg base (L2.CX P w) 10 fOw (spWrOf K Cw CL S)) (PPw : PropOf K Cw "parts" ppw fPw) (bPw : Binds K fdPw ["self"] []) (GPw : FnOk P w K mg base CX0 1 fPw fdPw ["self"] (getSp Cw "_parts")) : FnOk P w K mg base CX0 11 f fd ["_law_items", "_law_is_hand"] (spHeard K) := by
  refine F.ok sc_l_heard (fun vs H Q E h => ?_) (fun cdv A outer s H vs Q E hr h => ?_)
  · obtain ⟨x, d, b, rfl, _⟩ := h
    rfl
  · obtain ⟨x, d, b, rfl, hv, q⟩ := h
    have hr2 : Room 2 _ := hr.mono (by decide)
    cases b
    · refine ⟨_, (pss_cons (ps_try_as (i := 3) (tb := _) (ts := fun a cls d => tRet (tLst (tCons (tXf a cls d S "number" (tVar 3)) tNil))) (Wout := fun _ _ _ _ => False) rfl rfl sc_l_heard.nd rfl rfl ⟨rfl, by decide, .inl TS.g⟩ takes0
      (fun W pn xe tk _ => pss_one (ps_set (i := 2) sc_l_heard.nd rfl (.inl rfl) (by exact (pe_ifExp (pt_val (pv 1)) (pe_smethS (E := WE W) (pe_glob (v := .ref Ch) rfl CTh.mgC rfl) RDh SMh ROh hr (fun σ => passAt tk σ) (pa_cons (pv 0) pa_nil)) (pe_smethS (E := WE W) (pe_glob (v := .ref Cw) rfl CTw.mgC rfl) RDw SMw ROw hr (fun σ => passAt tk σ) (pa_cons (pv 0) pa_nil))))))
      (fun a oe cls d pn hzc hf => (pss_one (ps_ret (pe_lst (by exact (pa_cons (pe_xf TS.x TS.no hzc hf (pv 3)) pa_nil))))))) (pss_one (ps_ret (pe_ifExp (pt_cmpR (op_eqD hr.units) (pe_prop (pv 2) CTw.cl PPw GPw hr2 bPw .nil pass0 (by rfl)) (pe_callTy call_tuple_of (by rfl) T.m_tuple (by decide +kernel) (pa_cons (pv 0) pa_nil)) (nomark _)) (pe_lst pa_nil) (pe_lst (pa_cons pe_str pa_nil)))))), ?_⟩
      refine ⟨_, rfl, _, rfl, iteF ⟨rfl, _, rfl, x, d, rfl, hv, fun hn a H' h1 s1 h3 => ?_, fun ds hds => ⟨fun hp ho H' r s1 n1 row => ?_, fun n hp a H' h1 s1 h3 => ?_⟩⟩⟩
      · refine ⟨true, TS.te, fun _ b hb2 => ⟨_, rfl, rfl, rfl, a, _, _, rfl, h3, lk1 _ _, (by show 1 ≤ sizeLine; decide), fun l hl => q _ l (s1.trans (same_upd hl)) (s1.free hl) ?_⟩, fun z => nomatch z⟩
        rw [upd_same, heard_none hn]
      · obtain ⟨dx, y, p, h1, hL, h2⟩ := row
        have hv' := hv.same s1
        obtain ⟨ax, xs, rfl, hs, ha, hg⟩ := val_items hv' hds
        have hd2 := h2.dp
        have hsh := hd2.2.lay (by decide)
        have fin : ∀ H2, Same H H2 → (Q : VK) = Q → ∀ l, H2 l = none → Q (.ref l) (upd H2 l (.lst [])) := fun H2 s2 _ l hl => q _ l (s2.trans (same_upd hl)) (s2.free hl) (by rw [upd_same, heard_some hds, hp]; rfl)
        refine ⟨_, rfl, r, dx, _, rfl, h1, r, dx, _, _, rfl, h1, rowFl_p _ _ _, _, rfl, ax, xs, rfl, ?_⟩
        rcases hs with hs | hs
        · refine .inr ⟨hs, .tuple ds, .tuple ds, hd2.1, .tup hs ha, hsh, hsh, _, rfl, iteB (c := true) (SeqAt.eqv_refl _ (SeqAt.canLay_of_shaped hsh)) (iteT ⟨Nat.zero_le _, fun l hl => fin _ s1 rfl l hl⟩)⟩
        · refine .inl ⟨hs, fun t ht => ⟨.tuple ds, .tuple ds, dp_same (same_upd ht) _ _ hd2.1, .tup (.inl (.inl upd_same)) (dpAll_same (same_upd ht) _ _ ha), hsh, hsh, _, rfl, iteB (c := true) (SeqAt.eqv_refl _ (SeqAt.canLay_of_shaped hsh)) (iteT ⟨Nat.zero_le _, fun l hl => fin _ (s1.trans (same_upd ht)) rfl l hl⟩)⟩⟩
      · refine ⟨true, TS.te, fun _ b hb2 => ⟨_, rfl, rfl, rfl, a, _, _, rfl, h3, lk1 _ _, (by show 1 ≤ sizeLine; decide), fun l hl => q _ l (s1.trans (same_upd hl)) (s1.free hl) ?_⟩, fun z => nomatch z⟩
        rw [upd_same, heard_some hds, hp]
        rfl
    · refine ⟨_, (pss_cons (ps_try_as (i := 3) (tb := _) (ts := fun a cls d => tRet (tLst (tCons (tXf a cls d S "number" (tVar 3)) tNil))) (Wout := fun _ _ _ _ => False) rfl rfl sc_l_heard.nd rfl rfl ⟨rfl, by decide, .inl TS.g⟩ takes0
      (fun W pn xe tk _ => pss_one (ps_set (i := 2) sc_l_heard.nd rfl (.inl rfl) (by exact (pe_ifExp (pt_val (pv 1)) (pe_smethS (E := WE W) (pe_glob (v := .ref Ch) rfl CTh.mgC rfl) RDh SMh ROh hr (fun σ => passAt tk σ) (pa_cons (pv 0) pa_nil)) (pe_smethS (E := WE W) (pe_glob (v := .ref Cw) rfl CTw.mgC rfl) RDw SMw ROw hr (fun σ => passAt tk σ) (pa_cons (pv 0) pa_nil))))))
      (fun a oe cls d pn hzc hf => (pss_one (ps_ret (pe_lst (by exact (pa_cons (pe_xf TS.x TS.no hzc hf (pv 3)) pa_nil))))))) (pss_one (ps_ret (pe_ifExp (pt_cmpR (op_eqD hr.units) (pe_prop (pv 2) CTh.cl PPh GPh hr2 bPh .nil pass0 (by rfl)) (pe_callTy call_tuple_of (by rfl) T.m_tuple (by decide +kernel) (pa_cons (pv 0) pa_nil)) (nomark _)) (pe_lst pa_nil) (pe_lst (pa_cons pe_str pa_nil)))))), ?_⟩
      refine ⟨_, rfl, _, rfl, iteT ⟨rfl, _, rfl, x, d, rfl, hv, fun hn a H' h1 s1 h3 => ?_, fun ds hds => ⟨fun hp ho H' r s1 n1 row => ?_, fun n hp a H' h1 s1 h3 => ?_⟩⟩⟩
      · refine ⟨true, TS.te, fun _ b hb2 => ⟨_, rfl, rfl, rfl, a, _, _, rfl, h3, lk1 _ _, (by show 1 ≤ sizeLine; decide), fun l hl => q _ l (s1.trans (same_upd hl)) (s1.free hl) ?_⟩, fun z => nomatch z⟩
        rw [upd_same, heard_none hn]
      · obtain ⟨dx, y, p, h1, hL, h2⟩ := row
        have hv' := hv.same s1
        obtain ⟨ax, xs, rfl, hs, ha, hg⟩ := val_items hv' hds
        have hd2 := h2.dp
        have hsh := hd2.2.lay (by decide)
        have fin : ∀ H2, Same H H2 → (Q : VK) = Q → ∀ l, H2 l = none → Q (.ref l) (upd H2 l (.lst [])) := fun H2 s2 _ l hl => q _ l (s2.trans (same_upd hl)) (s2.free hl) (by rw [upd_same, heard_some hds, hp]; rfl)
        refine ⟨_, rfl, r, dx, _, rfl, h1, r, dx, _, _, rfl, h1, rowFl_p _ _ _, _, rfl, ax, xs, rfl, ?_⟩
        rcases hs with hs | hs
        · refine .inr ⟨hs, .tuple ds, .tuple ds, hd2.1, .tup hs ha, hsh, hsh, _, rfl, iteB (c := true) (SeqAt.eqv_refl _ (SeqAt.canLay_of_shaped hsh)) (iteT ⟨Nat.zero_le _, fun l hl => fin _ s1 rfl l hl⟩)⟩
        · refine .inl ⟨hs, fun t ht => ⟨.tuple ds, .tuple ds, dp_same (same_upd ht) _ _ hd2.1, .tup (.inl (.inl upd_same)) (dpAll_same (same_upd ht) _ _ ha), hsh, hsh, _, rfl, iteB (c := true) (SeqAt.eqv_refl _ (SeqAt.canLay_of_shaped hsh)) (iteT ⟨Nat.zero_le _, fun l hl => fin _ (s1.trans (same_upd ht)) rfl l hl⟩)⟩⟩
      · refine ⟨true, TS.te, fun _ b hb2 => ⟨_, rfl, rfl, rfl, a, _, _, rfl, h3, lk1 _ _, (by show 1 ≤ sizeLine; decide), fun l hl => q _ l (s1.trans (same_upd hl)) (s1.free hl) ?_⟩, fun z => nomatch z⟩
        rw [upd_same, heard_some hds, hp]
        rfl
theorem sc_l_due : FnScope ["_law_items", "_law_is_hand", "_law_wrong", "_law_opening_here"] ["_law_items", "_law_is_hand"] (defScope s_l_due) := ⟨rfl, rfl, rfl, by decide +kernel, rfl, by decide +kernel, by decide +kernel⟩
theorem ok_l_due {f : Addr} {fd : FuncData} (F : Fun K "_law_due" "_law_due" s_l_due f fd) (T : Txt K mg lt0 lt1 lt2 lt3 lt4 t0 t1 t2 t3 t4 t5 t6 t7 t8 tF tO dC) {f1 : Addr} {fd1 : FuncData} (F_l_form_wrong : Fun K "_law_form_wrong" "_law_form_wrong" s_l_form_wrong f1 fd1) (b_l_form_wrong : Binds K fd1 ["_law_items"] []) (g_l_form_wrong : mg "_law_form_wrong" = some (.ref f1)) (G_l_form_wrong : FnOk P w K mg base CX0 7 f1 fd1 ["_law_items"] (spForm K)) {f2 : Addr} {fd2 : FuncData} (F_l_opening : Fun K "_law_opening" "_law_opening" s_l_opening f2 fd2) (b_l_opening : Binds K fd2 ["_law_items"] []) (g_l_opening : mg "_law_opening" = some (.ref f2)) (G_l_opening : FnOk P w K mg base CX0 1 f2 fd2 ["_law_items"] (spOpL K)) {f3 : Addr} {fd3 : FuncData} (F_l_rule_wrong : Fun K "_law_rule_wrong" "_law_rule_wrong" s_l_rule_wrong f3 fd3) (b_l_rule_wrong : Binds K fd3 ["_law_items", "_law_opening_here"] []) (g_l_rule_wrong : mg "_law_rule_wrong" = some (.ref f3)) (G_l_rule_wrong : FnOk P w K mg base CX0 2 f3 fd3 ["_law_items", "_law_opening_here"] (spRule K)) : FnOk P w K mg base CX0 8 f fd ["_law_items", "_law_is_hand"] (spDue K) := by
  refine F.ok sc_l_due (fun vs H Q E h => ?_) (fun cdv A outer s H vs Q E hr h => ?_)
  · obtain ⟨x, ds, b, rfl, _⟩ := h
    rfl
  · obtain ⟨x, ds, b, rfl, hv, hlen, q⟩ := h
    refine ⟨_, (pss_cons (ps_set (i := 2) sc_l_due.nd rfl (.inl rfl) (pe_call G_l_form_wrong hr (by rfl) g_l_form_wrong F_l_form_wrong.kp b_l_form_wrong .nil pass0 (pa_cons (pv 0) pa_nil))) 
        (pss_cons (ps_if (pt_cmpR (op_neD hr.units) (pv 2) (pe_lst pa_nil) (nomark _)) 
          (pss_one (ps_ret (pv 2))) pss_nil) 
        (pss_cons (ps_set (i := 3) sc_l_due.nd rfl (.inl rfl) (pe_ifExp (pt_val (pv 1)) (pe_call G_l_opening (hr.mono (by decide)) (by rfl) g_l_opening F_l_opening.kp b_l_opening .nil pass0 (pa_cons (pv 0) pa_nil)) pe_int)) 
        (pss_one (ps_ret (pe_ifExp (pt_val (pe_callB call_isi (by rfl) T.m_isinstance (by decide +kernel) (pa_cons (pv 3) (pa_cons (pe_bltn (v := .ty "list") (u := .type "list") (by rfl) T.m_list (by decide +kernel) rfl) pa_nil)))) (pv 3) (pe_call G_l_rule_wrong (hr.mono (by decide)) (by rfl) g_l_rule_wrong F_l_rule_wrong.kp b_l_rule_wrong .nil pass0 (pa_cons (pv 0) (pa_cons (pv 3) pa_nil))))))))), ?_⟩
    have hl : ∀ (H' : Hp) (l : Addr) (r : Option (Option Nat)), H' l = some (.lst (rsV r)) → Dp K H' (.ref l) (.list (rsD r)) := fun H' l r e => .lst (.inl (.inl e)) (dp_rs r)
    refine ⟨_, rfl, x, ds, rfl, hv, hlen, fun H1 l1 s1 n1 e1 => ⟨_, rfl, Nat.zero_le _, fun l2 hl2 => ⟨.list (rsD (formF ds)), .list [], hl _ _ _ ((same_upd hl2) _ _ e1), .lst (.inl (.inl upd_same)) .nil, rs_sh _, rfl, ?_⟩⟩⟩
    have s2 := s1.trans (same_upd (o := .lst []) hl2)
    replace e1 := (same_upd (o := .lst []) hl2) _ _ e1
    generalize upd H1 l2 (.lst []) = H2 at s2 e1
    cases hf : formF ds with
    | some r =>
      rw [hf] at e1
      have e : PyData.eqv (.list (rsD (some r))) (.list []) = false := by cases r <;> rfl
      rw [e]
      refine ⟨_, rfl, iteT ⟨_, rfl, q H2 l1 s2 n1 ?_⟩⟩
      rw [e1, prog_form hf]
    | none =>
      have e : PyData.eqv (.list (rsD none)) (.list []) = true := rfl
      rw [e]
      refine ⟨_, rfl, iteF ?_⟩
      have hfb : formB 0 ds = none ∧ 1 ≤ (spread ds).length ∧ (spread ds).length ≤ 14 := by
        unfold formF at hf
        split at hf
        · cases hf
        · rename_i h1
          split at hf
          · rename_i h2
            exact ⟨h1, h2⟩
          · cases hf
      obtain ⟨hfb, h1, h14⟩ := hfb
      have hok := formB_all hfb
      have hits : ∀ d ∈ ds, ItemD d ∧ ∀ z ∈ way d, ItemD z := fun d hd => ⟨(itOk_form (hok d hd)).1.1, fun z hz => ((itOk_form (hok d hd)).2 z hz).1.1⟩
      have hd2 := (hv.same s2).dp.1
      have hlen2 := len_spread ds
      cases b with
      | false =>
        have hp : progF false ds = (badF 0 wNotW ds).map some := by
          unfold progF
          rw [hf]
          rfl
        refine ⟨_, rfl, _, rfl, iteF ⟨_, rfl, _, _, _, _, false, rfl, .ty "list", .base (.int 0), kit_ty (by decide +kernel), _, rfl, iteF ⟨_, rfl, _, rfl, x, ds, 0, rfl, hd2, hits, by omega, fun H3 l3 ns s3 n3 hp1 hp2 e3 => q H3 l3 (s2.trans s3) (s2.free n3) ?_⟩⟩⟩
        rw [e3, first_take (rule_work hok h1) hp1 hp2, hp]
      | true =>
        have hp : progF true ds = match openF (ds.map headW) with | .inr r => some r | .inl o => (badF o wNotB ds).map some := by
          unfold progF
          rw [hf]
          rfl
        refine ⟨_, rfl, _, rfl, iteT ⟨_, rfl, x, ds, rfl, hd2, by omega, fun d hd => ⟨(hits d hd).1, (itOk_form (hok d hd)).1.2.1⟩, fun m hm H3 s3 => ?_, fun r hr2 H3 l3 s3 n3 e3 => ?_⟩⟩
        · rw [openL_eq] at hm
          rw [hm] at hp
          have hp : progF true ds = (badF m wNotB ds).map some := hp
          refine ⟨_, rfl, _, _, _, _, false, rfl, .ty "list", .base (.int _), kit_ty (by decide +kernel), _, rfl, iteF ⟨_, rfl, _, rfl, x, ds, m, rfl, (hv.same (s2.trans s3)).dp.1, hits, by omega, fun H4 l4 ns s4 n4 hp1 hp2 e4 => q H4 l4 ((s2.trans s3).trans s4) ((s2.trans s3).free n4) ?_⟩⟩
          rw [e4, first_take (rule_hand hok hm) hp1 hp2, hp]
        · rw [openL_eq] at hr2
          rw [hr2] at hp
          have hp : progF true ds = some r := hp
          have dL : Dp K H3 (.ref l3) (.list (rsD (some r))) := hl _ _ _ e3
          refine ⟨_, rfl, _, _, _, _, true, rfl, .ty "list", dp_ty dL, kit_ty (by show kitB "list" "list" = some true; decide +kernel), _, rfl, iteT ⟨_, rfl, q H3 l3 (s2.trans s3) (s2.free n3) ?_⟩⟩
          rw [e3, hp]
          rfl
end
end K05

/-! t[::-1] and t * n of tuples. -/
namespace OO
open PySem PySem.Spec PyProof.Rows HT L2
section
variable {prog : Program} {w : World} {A : Around} {E : Value → Shared → Prop} {s : Shared}
theorem adjust_rev (n : Nat) : Builtin.Slice.sliceAdjust none none (-1) (n : Int) = ((n : Int) - 1, -1) := rfl
theorem places_rev (n : Nat) : Builtin.Slice.slicePlaces ((n : Int) - 1) (-1) (-1) = n := by
  unfold Builtin.Slice.slicePlaces
  rw [if_neg (by decide)]
  by_cases h : ((n : Int) - 1) > -1
  · rw [if_pos h]
    have e : ((n : Int) - 1 - -1 - 1) / (- -1) + 1 = (n : Int) := by
      rw [Int.neg_neg, Int.ediv_one]
      omega
    rw [e, Int.toNat_natCast]
  · rw [if_neg h]
    omega
theorem sliceApplied_rev {sl : Addr} {vl vu vs : Value} {n : Nat} {Q : Int × Int × Nat → Shared → Prop} (hs : s.heap.IsSliceOf sl vl vu vs) (pl : IsPart vl none) (pu : IsPart vu none) (ps : IsPart vs (some (-1)))
    (h : Q ((n : Int) - 1, -1, n) s) : wpAny (model prog w) A (Builtin.Slice.sliceApplied (.ref sl) (pure (n : Int))) Q E s := by
  obtain ⟨os, hos, hcs, hds⟩ := id hs
  unfold Builtin.Slice.sliceApplied Builtin.Slice.sliceFields
  refine wpAny_bind (wpAny_bind (wpAny_field hos hds (x := vl) rfl (wpAny_bind (wpAny_field hos hds (x := vu) rfl (wpAny_bind (wpAny_field hos hds (x := vs) rfl (wpAny_pure ?_)))))))
  refine wpAny_bind (slicePart_ ps ?_)
  show wpAny _ _ (if ((-1 : Int) == 0) = true then _ else _) _ _ s
  rw [if_neg (by decide)]
  refine wpAny_bind (slicePart_ pl (wpAny_bind (slicePart_ pu (wpAny_bind (wpAny_pure ?_)))))
  show wpAny _ _ (match Builtin.Slice.sliceAdjust none none (-1) (n : Int) with | (lo, hi) => pure (lo, (-1 : Int), Builtin.Slice.slicePlaces lo hi (-1))) _ _ s
  rw [adjust_rev n]
  show wpAny _ _ (pure ((n : Int) - 1, (-1 : Int), Builtin.Slice.slicePlaces ((n : Int) - 1) (-1) (-1))) _ _ s
  rw [places_rev]
  exact wpAny_pure h
theorem pick_rev (xs : Array Value) : ((List.range xs.size).filterMap fun (m : Nat) => xs[(((xs.size : Int) - 1) + (m : Int) * -1).toNat]?) = xs.toList.reverse := by
  have e : ∀ k, k ≤ xs.size → ((List.range k).filterMap fun (m : Nat) => xs[(((xs.size : Int) - 1) + (m : Int) * -1).toNat]?) = xs.toList.reverse.take k := fun k hk => by
    induction k with
    | zero => rfl
    | succ k ih =>
      have hx : (((xs.size : Int) - 1) + (k : Int) * -1).toNat = xs.size - 1 - k := by omega
      have hg : xs[xs.size - 1 - k]? = some xs[xs.size - 1 - k] := Array.getElem?_eq_getElem (by omega)
      rw [List.range_succ, List.filterMap_append, ih (by omega), List.take_add_one]
      congr 1
      rw [List.filterMap_cons, hx, hg, List.getElem?_reverse (by rw [Array.length_toList]; omega), Array.length_toList, Array.getElem?_toList, hg]
      rfl
  rw [e _ (Nat.le_refl _), List.take_of_length_le (by rw [List.length_reverse, Array.length_toList]; exact Nat.le_refl _)]
theorem getItem_tuple_rev {t sl : Addr} {items : Array Value} {vl vu vs : Value} {Q : Value → Shared → Prop} (ht : IsTup s.heap t items) (hs : s.heap.IsSliceOf sl vl vu vs) (pl : IsPart vl none) (pu : IsPart vu none) (ps : IsPart vs (some (-1)))
    (h : Q (.ref s.heap.objs.size) { s with heap := s.heap.push { cls := .type "tuple", data := .seq items.toList.reverse.toArray } }) (hsz : items.size ≤ sizeLine) : wpAny (model prog w) A (getItem (.ref t) (.ref sl)) Q E s := by
  have htake : sizeOk (.seq items.toList.reverse.toArray) := by
    show items.toList.reverse.toArray.size ≤ sizeLine
    rw [List.size_toArray, List.length_reverse, Array.length_toList]
    exact hsz
  obtain ⟨os, hos, hcs, hds⟩ := id hs
  have hTs : s.TypeIs (.ref sl) "slice" := ⟨os, hos, hcs⟩
  unfold getItem
  try with_reducible refine wpAny_holding ?_
  first | refine wpAny_bind (wpAny_pure ?_) | skip
  refine wpAny_bind (wpAny_sequenceKey ht.typeIs (by decide) ?_)
  refine wpAny_bind (wpAny_callSpecial?_slot (name := Str.ofString "__getitem__") ht.typeIs PyProof.Rows.slot_tuple_getitem
    (wpAny_call_entry PyProof.Rows.slot_tuple_getitem ht.typeIs entry_tuple_getitem ?_ (args_tuple_getitem _ _)))
  show wpAny _ _ (Builtin.Tuple.tupleItemsOf (.ref t) >>= _) _ _ s
  refine wpAny_bind (tupleItemsOf_ ht ?_)
  refine wpAny_bind (wpAny_typeOf hTs ?_)
  rw [if_pos (by decide)]
  refine wpAny_bind (sliceApplied_rev hs pl pu ps ?_)
  have hno : ¬ (((items.size : Int) - 1 == 0 && (-1 : Int) == 1 && items.size == items.size) = true) := by
    rw [show ((-1 : Int) == 1) = false from rfl, Bool.and_false, Bool.false_and]
    decide
  show wpAny _ _ (if ((items.size : Int) - 1 == 0 && (-1 : Int) == 1 && items.size == items.size) = true then _ else _) _ _ s
  rw [if_neg hno, pick_rev]
  first
    | exact wpAny_bind (m := Builtin.Tuple.tupleExact _) (wpAny_newObj_type (wpAny_pure ⟨_, rfl, wpAny_pure h⟩) htake)
    | exact wpAny_bind (m := Builtin.Tuple.tupleExact _) (wpAny_newObj_type (wpAny_bind (wpAny_pure (wpAny_pure ⟨_, rfl, wpAny_pure h⟩))) htake)
    | exact wpAny_bind (wpAny_bind (m := Builtin.Tuple.tupleExact _) (wpAny_newObj_type (wpAny_pure (wpAny_pure ⟨_, rfl, wpAny_pure h⟩)) htake))
    | exact wpAny_bind (wpAny_bind (m := Builtin.Tuple.tupleExact _) (wpAny_newObj_type (wpAny_pure ⟨_, rfl, wpAny_pure h⟩) htake))
end
def tRevT (K : PySem.W.Frag) (te : TE) : TE := fun σ H Q => te σ H fun x H1 => ∃ a xs, x = .ref a ∧ SqT K H1 a xs ∧ ∀ p, H1 p = none → Q (.ref p) (upd H1 p (.tup xs.reverse))
section
variable {X : Cx}
theorem pe_revT {e : Expr} {te : TE} {k : Nat} {p1 p2 p3 pos : Pos} (he : PE X e te) : PE X (.Subscript e (.Slice none none (some (.UnaryOp .USub (.Constant (.int 1) k p1) p2)) p3) pos) (tRevT X.K te) := by
  refine ⟨fun pins s σ H Q I h => ?_⟩
  refine Subscript_ (thn (he.run pins s σ H _ I h) fun v s1 ⟨x, H1, I1, r1, q1⟩ => ?_)
  obtain ⟨a, xs, ex, hx, q⟩ := q1
  subst ex
  cases r1
  have hst : PO X (some (.UnaryOp .USub (.Constant (.int 1) k p1) p2)) (tPart (tUn (rU fun i => .int (-i)) (tC (.int 1)))) := po_some (pe_un un_neg pe_int)
  refine wpAny_Slice (thn (po_none.run pins s1 σ H1 (fun o H2 => o = none ∧ H2 = H1) I1 ⟨rfl, rfl⟩) fun vl s2 ⟨l, H2, I2, pl, el, e2⟩ => ?_)
  subst el e2
  refine thn (po_none.run pins s2 σ H2 (fun o H3 => o = none ∧ H3 = H2) I2 ⟨rfl, rfl⟩) fun vu s3 ⟨u, H3, I3, pu, eu, e3⟩ => ?_
  subst eu e3
  refine thn (hst.run pins s3 σ H3 (fun o H4 => o = some (-1) ∧ H4 = H3) I3 ⟨1, rfl, -1, rfl, rfl, rfl⟩) fun vs s4 ⟨o, H4, I4, ps, eo, e4⟩ => ?_
  subst eo e4
  have I5 : Inv X pins σ H4 { s4 with heap := s4.heap.push { cls := .type "slice", data := .fields #[vl, vu, vs] } } := I4.kept (t' := s4.toks) fun b ob q => Heap.get?_push_of_some _ q
  obtain ⟨its, r, ht, hz⟩ := I5.tuple hx
  have hlen := r.length
  show wpAny (model X.prog X.w) X.A (subscriptTail e (.Slice none none (some (.UnaryOp .USub (.Constant (.int 1) k p1) p2)) p3) (.ref a) (.ref s4.heap.objs.size)) (EP X pins σ Q) X.xe { s4 with heap := s4.heap.push { cls := .type "slice", data := .fields #[vl, vu, vs] } }
  refine tail_any (ops := [.ref a, .ref s4.heap.objs.size]) ht.typeIs PyProof.Rows.slot_tuple_getitem.lookup ?_ (by with_unfolding_all rfl)
  refine getItem_tuple_rev ht (Heap.IsSliceOf.new _ vl vu vs) pl pu ps ?_ (by rw [List.size_toArray]; omega)
  rw [show its.toArray.toList = its from rfl]
  refine ⟨.ref _, _, I5.laid (t' := s4.toks) (o := .tup xs.reverse) (fun b ob q => Heap.get?_push_of_some _ q) (Nat.le_refl _) ?_, rfl, q _ (I5.hok.fresh (Nat.le_refl _))⟩
  exact ⟨by rw [List.length_reverse]; exact hz, _, r.reverse, IsTup.new _ _⟩
end
end OO

/-! t * 0 and t * 1 of tuples. -/
namespace OO
open PySem PySem.Spec PyProof.Rows HT L2
theorem tuple_mul1 (l : Addr) (items : Array Value) (n : Nat) (dd : Option Addr) (sl : Array (Option Value)) (u : Tok) :
    Meets (Builtin.«tuple.__mul__» ⟨[.ref l, .int 1 u], []⟩) (fun _ R s => s.heap.get? l = some { cls := .type "tuple", dict := dd, data := .seq items n, slots := sl } ∧ R (.ok (.ret (Value.ref l))) { s with heap := s.heap, toks := s.toks }) :=
  .of_wp fun prog w A R s h => by
    obtain ⟨hp, g, d, tk, os⟩ := s
    obtain ⟨hl, h⟩ := h
    have f1 := AutoSeq1.idx_int
    have f2 := AutoSeq1.sub_tuple_tuple
    have c1 : (items.isEmpty || (1 : Int) == 1) = true := by rw [show ((1 : Int) == 1) = true from rfl, Bool.or_true]
    wp_walk using wpAny_loadPart' hl
    repeat (first
      | (refine wpAny_ite_false (decide_eq_false (by decide)) ?_; wp_walk using wpAny_loadPart' hl)
      | (refine wpAny_ite_true (decide_eq_true (by rw [c1])) ?_; wp_walk using wpAny_loadPart' hl))
    exact ⟨_, rfl, h⟩
theorem tuple_mul0 (l : Addr) (items : Array Value) (n : Nat) (dd : Option Addr) (sl : Array (Option Value)) (u : Tok) (he : items.isEmpty = false) :
    Meets (Builtin.«tuple.__mul__» ⟨[.ref l, .int 0 u], []⟩) (fun _ R s => s.heap.get? l = some { cls := .type "tuple", dict := dd, data := .seq items n, slots := sl } ∧
      R (.ok (.ret (Value.ref s.heap.objs.size))) { s with heap := s.heap.push { cls := Value.type "tuple", data := Data.seq #[] }, toks := s.toks }) :=
  .of_wp fun prog w A R s h => by
    obtain ⟨hp, g, d, tk, os⟩ := s
    obtain ⟨hl, h⟩ := h
    have f1 := AutoSeq1.idx_int
    have c1 : (items.isEmpty || (0 : Int) == 1) = false := by rw [he]; rfl
    wp_walk using wpAny_loadPart' hl
    repeat (first
      | (refine wpAny_ite_false (decide_eq_false (by decide)) ?_; wp_walk using wpAny_loadPart' hl)
      | (refine wpAny_ite_false (decide_eq_false (by rw [c1]; exact Bool.false_ne_true)) ?_; wp_walk using wpAny_loadPart' hl)
      | (refine wpAny_ite_true (decide_eq_true rfl) ?_; wp_walk using wpAny_loadPart' hl))
    exact ⟨_, rfl, h⟩
/-- t * n, t not empty -/
def rRepTA (K : PySem.W.Frag) : R2 := fun x y H Q => ∃ (l : Addr) (k : Int) (xs : List V), x = .ref l ∧ y = .int k ∧ SqT K H l xs ∧ xs ≠ [] ∧ 0 ≤ k ∧ k ≤ 1000 ∧ xs.length ≤ 1000 ∧ (k = 1 → Q (.ref l) H) ∧ (k ≠ 1 → ∀ p, H p = none → Q (.ref p) (upd H p (.tup (List.replicate k.toNat xs).flatten)))
theorem op_repTA {X : Cx} : OpR X (binaryOp .Mult) (rRepTA X.K) := by
  intro pins s σ H x y v u Q I rx ry h
  obtain ⟨l, k, xs, rfl, rfl, hT, hne, h0, h1, hz, q1, qn⟩ := h
  by_cases h2 : 2 ≤ k
  · exact op_repT pins s σ H _ _ v u Q I rx ry ⟨l, k, xs, rfl, rfl, hT, hne, h2, h1, hz, qn (by omega)⟩
  cases rx
  obtain ⟨t, rfl⟩ := ry
  obtain ⟨its, r, ⟨⟨cls, dd, data, sl⟩, ho, hc, n, hd⟩, hs⟩ := I.tuple hT
  simp only at hc hd
  subst hc hd
  have hle : its.length = xs.length := r.length.symm
  have hi : its.toArray.isEmpty = false := by
    cases its with
    | nil => exact absurd (List.eq_nil_of_length_eq_zero hle.symm) hne
    | cons a b => rfl
  by_cases h3 : k = 1
  · subst h3
    refine wpAny_binaryOp_repeat_ref (T := "tuple") (U := "int") (by decide) ⟨_, ho, rfl⟩ (fun s' => typeIs_int s' 1 t) noFill_tuple_mul F.fills_int_mul F.slot_int_rmul repeat_tuple F.slot_int_index.lookup
      (call_meets F.slot_int_rmul (typeIs_int s 1 t) F.entry_int_rmul (F.args_int_rmul_2 _ _) (int_rmul_tuple 1 t l its.toArray n dd sl)
        ⟨ho, rfl, ⟨_, ho, rfl⟩, call_meets F.slot_tuple_mul ⟨_, ho, rfl⟩ F.entry_tuple_mul (F.args_tuple_mul_2 _ _) (tuple_mul1 l its.toArray n dd sl t) ⟨ho, ?_⟩⟩)
    exact ⟨.ref l, H, I, rfl, q1 rfl⟩
  · obtain rfl : k = 0 := by omega
    refine wpAny_binaryOp_repeat_ref (T := "tuple") (U := "int") (by decide) ⟨_, ho, rfl⟩ (fun s' => typeIs_int s' 0 t) noFill_tuple_mul F.fills_int_mul F.slot_int_rmul repeat_tuple F.slot_int_index.lookup
      (call_meets F.slot_int_rmul (typeIs_int s 0 t) F.entry_int_rmul (F.args_int_rmul_2 _ _) (int_rmul_tuple 0 t l its.toArray n dd sl)
        ⟨ho, rfl, ⟨_, ho, rfl⟩, call_meets F.slot_tuple_mul ⟨_, ho, rfl⟩ F.entry_tuple_mul (F.args_tuple_mul_2 _ _) (tuple_mul0 l its.toArray n dd sl t hi) ⟨ho, ?_⟩⟩)
    refine ⟨.ref s.heap.objs.size, _, I.laid (t' := s.toks) (o := .tup []) (fun b ob q => Heap.get?_push_of_some _ q) (Nat.le_refl _) ?_, rfl, qn h3 _ (I.hok.fresh (Nat.le_refl _))⟩
    exact ⟨Nat.zero_le _, [], .nil, IsTup.new _ _⟩
end OO

namespace K05
open PySem PySem.Spec PyProof.Rows StX L2 TL GG OO LY
/-- an item of a bent row -/
def ItB (d : PyData) : Prop := (okD d = true ∧ PyData.depth d ≤ 12) ∧ (numB1 d).length ≤ 6
instance (d : PyData) : Decidable (ItB d) := by unfold ItB; exact inferInstance
def wordD : List PyData := [T1 "leave", T1 "enter", T1 "lock", T1 "unlock", T1 "let", T1 "look", T1 "hold"]
def moreD : List PyData := [.tuple [.str "ask", .str "m", .tuple []], T1 "try"]
def moreI : List PyData := [.none, .tuple [.str "ask", .str "m", .tuple []], T1 "touch"]
def oddB : List PyData := [.none, .int 5, .str "look", T1 "Look", .list [.str "look"], T1 "start", .tuple [.str "start", .str "A"], .tuple [.str "ask", .str "m", .list []], .tuple [], .tuple [.str "ask", .str "", .tuple []]]
theorem word_b : ∀ d ∈ wordD ++ moreD, ItB d := by decide +kernel
theorem odd_b : ∀ d ∈ oddB, ItB d := by decide +kernel
theorem wi_ok : ∀ d ∈ wordD ++ moreI, okD d = true ∧ PyData.depth d ≤ 5 := by decide +kernel
theorem ask_b {di : List PyData} (hl : di.length ≤ 5) (h : ∀ d ∈ di, d ∈ wordD ++ moreI) : ItB (.tuple [.str "ask", .str "m", .tuple di]) := by
  have g1 : GG.Good 6 (.tuple di) := GG.Good.tup.mpr ⟨by omega, fun d hd => wi_ok d (h d hd)⟩
  have g2 : GG.Good 7 (.tuple [.str "ask", .str "m", .tuple di]) := GG.Good.tup.mpr ⟨by show 3 ≤ 1000; decide, fun d hd => by
    simp only [List.mem_cons, List.not_mem_nil, or_false] at hd
    rcases hd with rfl | rfl | rfl
    · exact ⟨by decide +kernel, by decide +kernel⟩
    · exact ⟨by decide +kernel, by decide +kernel⟩
    · exact g1⟩
  refine ⟨g2.mono (by decide), ?_⟩
  unfold numB1
  split
  · rw [List.length_cons, List.length_map]
    show di.length + 1 ≤ 6
    omega
  · exact Nat.succ_le_succ (Nat.zero_le 5)
theorem cut_one {α : Type} (ds : List α) (r : Int) (h0 : 0 ≤ r) : (cutG ds (some r) (some (r + 1))).length ≤ 1 := by
  obtain ⟨k, rfl⟩ := Int.eq_ofNat_of_zero_le h0
  unfold cutG
  rw [show (k : Int) + 1 = ((k + 1 : Nat) : Int) by omega, HT.sIx_nat, HT.sIx_nat, List.length_take, List.length_drop]
  omega
theorem cut_three {α : Type} (ds : List α) (r : Int) (h0 : 0 ≤ r) : (cutG ds none (some r)).length + (cutG ds (some (r + 1)) none).length ≤ ds.length := by
  obtain ⟨k, rfl⟩ := Int.eq_ofNat_of_zero_le h0
  unfold cutG
  rw [show (k : Int) + 1 = ((k + 1 : Nat) : Int) by omega, HT.sIx_nat, HT.sIx_nat, HT.sIx_none, HT.sIx_none, List.length_take, List.length_drop, List.length_take, List.length_drop]
  omega
theorem cut_two {α : Type} (ds : List α) (r : Int) (h0 : 0 ≤ r) (h1 : r ≤ ds.length) : (cutG ds none (some r)).length + (cutG ds (some r) none).length = ds.length := by
  rw [cutG_lo ds h0 h1, cutG_hi ds h0 h1, List.length_take, List.length_drop]
  omega
section
variable {K : PySem.W.Frag}
theorem ld_new {p t : Addr} {R H : Hp} {vs : List V} {ds : List PyData} (k : Rest p R H) (ht : H t = none) (hv : DpAll K R vs ds) : Go p R H (upd R t (.lst vs)) (upd H t (.lst vs)) ∧ LD K (upd R t (.lst vs)) (.ref t) ds :=
  ⟨Go.new k ht, t, vs, rfl, upd_same, dpAll_same (Go.new (o := .lst vs) k ht).same _ _ hv⟩
theorem dpAll_mem {R : Hp} {xs : List V} {ds : List PyData} {x : V} (h : DpAll K R xs ds) (hx : x ∈ xs) : ∃ d ∈ ds, Dp K R x d := by
  obtain ⟨i, hi⟩ := List.getElem?_of_mem hx
  have hl := dpAll_len h
  have hi2 := (List.getElem?_eq_some_iff.mp hi).1
  have hd : ds[i]? = some (ds[i]'(by omega)) := List.getElem?_eq_getElem (by omega)
  exact ⟨_, List.mem_of_getElem? hd, dpAll_at h hi hd⟩
theorem dpAll_pick {R : Hp} {G : List PyData} : ∀ {xs : List V}, (∀ y ∈ xs, ∃ d ∈ G, Dp K R y d) → ∃ ds, DpAll K R xs ds ∧ ds.length = xs.length ∧ ∀ d ∈ ds, d ∈ G
  | [], _ => ⟨[], .nil, rfl, fun d h => nomatch h⟩
  | x :: xs, h => by
    obtain ⟨d, hd, h1⟩ := h x List.mem_cons_self
    obtain ⟨ds, h2, h3, h4⟩ := dpAll_pick (xs := xs) fun y hy => h y (List.mem_cons_of_mem _ hy)
    refine ⟨d :: ds, .cons h1 h2, by rw [List.length_cons, List.length_cons, h3], fun e he => ?_⟩
    rcases List.mem_cons.mp he with rfl | he
    · exact hd
    · exact h4 e he
theorem dpAll_rep {R : Hp} {xs : List V} {ds : List PyData} (h : DpAll K R xs ds) : ∀ n : Nat, DpAll K R (List.replicate n xs).flatten (List.replicate n ds).flatten
  | 0 => .nil
  | n + 1 => by
    rw [List.replicate_succ, List.replicate_succ, List.flatten_cons, List.flatten_cons]
    exact dpAll_app h (dpAll_rep h n)
theorem dpAll_rev {R : Hp} : ∀ {xs : List V} {ds : List PyData}, DpAll K R xs ds → DpAll K R xs.reverse ds.reverse
  | [], _, .nil => .nil
  | x :: xs, _, .cons h r => by
    rw [List.reverse_cons, List.reverse_cons]
    exact dpAll_app (dpAll_rev r) (.cons h .nil)
end
def spBent (K : PySem.W.Frag) : Sp := fun vs H Q _ => ∃ (p : Addr) (R : Hp) (x : V) (ds : List PyData), vs = [.ref p, x] ∧ Rest p R H ∧ Dp K R x (.tuple ds) ∧ (∀ d ∈ ds, ItB d) ∧ ds.length ≤ 60 ∧ ∀ x' R' H' ds', Go p R H R' H' → Dp K R' x' (.tuple ds') → (∀ d ∈ ds', ItB d) → ds'.length ≤ ds.length + 8 → Q x' H'
section
variable {P : Program} {w : World} {K : PySem.W.Frag} {mg : Str → Option Value} {base : Heap} {lt0 lt1 lt2 lt3 lt4 : Tok} {t0 t1 t2 t3 t4 t5 t6 t7 t8 tF tO dC : Addr}
theorem sc_l_bent : FnScope ["_law_pool_here", "_law_items", "_law_at", "_law_other", "_law_way", "_law_word", "_law_odd", "_law_inner", "_law_turn"] ["_law_pool_here", "_law_items"] (defScope s_l_bent) := ⟨rfl, rfl, rfl, by decide +kernel, rfl, by decide +kernel, by decide +kernel⟩
theorem ok_l_bent {f : Addr} {fd : FuncData} (F : Fun K "_law_bent" "_law_bent" s_l_bent f fd) (T : Txt K mg lt0 lt1 lt2 lt3 lt4 t0 t1 t2 t3 t4 t5 t6 t7 t8 tF tO dC) {f1 : Addr} {fd1 : FuncData} (F_l_draw : Fun K "_law_draw" "_law_draw" s_l_draw f1 fd1) (b_l_draw : Binds K fd1 ["_law_pool_here", "_law_many"] []) (g_l_draw : mg "_law_draw" = some (.ref f1)) (G_l_draw : FnOk P w K mg base CX0 1 f1 fd1 ["_law_pool_here", "_law_many"] (spDraw K)) {f2 : Addr} {fd2 : FuncData} (F_l_pick : Fun K "_law_pick" "_law_pick" s_l_pick f2 fd2) (b_l_pick : Binds K fd2 ["_law_pool_here", "_law_some"] []) (g_l_pick : mg "_law_pick" = some (.ref f2)) (G_l_pick : FnOk P w K mg base CX0 2 f2 fd2 ["_law_pool_here", "_law_some"] (spPick K)) : FnOk P w K mg base CX0 3 f fd ["_law_pool_here", "_law_items"] (spBent K) := by
  refine F.ok sc_l_bent (fun vs H Q E h => ?_) (fun cdv A outer s H vs Q E hr h => ?_)
  · obtain ⟨p, R, x, ds, rfl, _⟩ := h
    rfl
  · obtain ⟨p, R, x, ds, rfl, k, hd, hb, hlen, q⟩ := h
    refine ⟨_, (pss_cons (ps_par (i := 2) (j := 3) rfl sc_l_bent.nd rfl rfl (by decide) rfl rfl (pa_cons (pe_call G_l_draw (hr.mono (by decide)) (by rfl) g_l_draw F_l_draw.kp b_l_draw .nil pass0 (pa_cons (pv 0) (pa_cons (pe_op op_add (pe_callB call_len_seq (by rfl) T.m_len PySem.boot_len (pa_cons (pv 1) pa_nil)) pe_int) pa_nil))) (pa_cons (pe_call G_l_draw (hr.mono (by decide)) (by rfl) g_l_draw F_l_draw.kp b_l_draw .nil pass0 (pa_cons (pv 0) (pa_cons (pe_op op_add (pe_callB call_len_seq (by rfl) T.m_len PySem.boot_len (pa_cons (pv 1) pa_nil)) pe_int) pa_nil))) pa_nil)) (by rfl)) 
        (pss_cons (ps_asg (pe_tup (pa_cons (pe_call G_l_draw (hr.mono (by decide)) (by rfl) g_l_draw F_l_draw.kp b_l_draw .nil pass0 (pa_cons (pv 0) (pa_cons pe_int pa_nil))) (pa_cons (pe_lst (pa_cons (pe_tup (pa_cons pe_str pa_nil)) (pa_cons (pe_tup (pa_cons pe_str pa_nil)) (pa_cons (pe_tup (pa_cons pe_str pa_nil)) (pa_cons (pe_tup (pa_cons pe_str pa_nil)) (pa_cons (pe_tup (pa_cons pe_str pa_nil)) (pa_cons (pe_tup (pa_cons pe_str pa_nil)) (pa_cons (pe_tup (pa_cons pe_str pa_nil)) pa_nil)))))))) pa_nil))) (pg_tup rfl (pgs_cons (pg_name (i := 4) sc_l_bent.nd rfl (.inl rfl)) (pgs_cons (pg_name (i := 5) sc_l_bent.nd rfl (.inr rfl)) pgs_nil)))) 
        (pss_cons (ps_if (pt_cmpR op_eq (pv 4) pe_int (nomark _)) 
          (pss_one (ps_ret (pe_op op_catA (pe_slice sl_tupA (pv 1) po_none (po_some (pv 2))) (pe_slice sl_tupA (pv 1) (po_some (pe_op op_add (pv 2) pe_int)) po_none)))) pss_nil) 
        (pss_cons (ps_if (pt_cmpR op_eq (pv 4) pe_int (nomark _)) 
          (pss_one (ps_ret (pe_op op_catA (pe_op op_catA (pe_slice sl_tupA (pv 1) po_none (po_some (pv 2))) (pe_slice sl_tupA (pv 1) (po_some (pv 3)) (po_some (pe_op op_add (pv 3) pe_int)))) (pe_slice sl_tupA (pv 1) (po_some (pv 2)) po_none)))) pss_nil) 
        (pss_cons (ps_if (pt_cmpR op_lt (pv 4) pe_int (nomark _)) 
          (pss_one (ps_ret (pe_op op_catA (pe_op op_catA (pe_slice sl_tupA (pv 1) po_none (po_some (pv 2))) (pe_tup (pa_cons (pe_call G_l_pick hr (by rfl) g_l_pick F_l_pick.kp b_l_pick .nil pass0 (pa_cons (pv 0) (pa_cons (pe_op op_cat (pv 5) (pe_lst (pa_cons (pe_tup (pa_cons pe_str (pa_cons pe_str (pa_cons (pe_tup pa_nil) pa_nil)))) (pa_cons (pe_tup (pa_cons pe_str pa_nil)) pa_nil)))) pa_nil))) pa_nil))) (pe_slice sl_tupA (pv 1) (po_some (pv 2)) po_none)))) pss_nil) 
        (pss_cons (ps_if (pt_cmpR op_eq (pv 4) pe_int (nomark _)) 
          (pss_cons (ps_set (i := 6) sc_l_bent.nd rfl (.inl rfl) (pe_lst (pa_cons pe_non (pa_cons pe_int (pa_cons pe_str (pa_cons (pe_tup (pa_cons pe_str pa_nil)) (pa_cons (pe_lst (pa_cons pe_str pa_nil)) (pa_cons (pe_tup (pa_cons pe_str pa_nil)) (pa_cons (pe_tup (pa_cons pe_str (pa_cons pe_str pa_nil))) (pa_cons (pe_tup (pa_cons pe_str (pa_cons pe_str (pa_cons (pe_lst pa_nil) pa_nil)))) (pa_cons (pe_tup pa_nil) (pa_cons (pe_tup (pa_cons pe_str (pa_cons pe_str (pa_cons (pe_tup pa_nil) pa_nil)))) pa_nil)))))))))))) 
          (pss_one (ps_ret (pe_op op_catA (pe_op op_catA (pe_slice sl_tupA (pv 1) po_none (po_some (pv 2))) (pe_tup (pa_cons (pe_call G_l_pick hr (by rfl) g_l_pick F_l_pick.kp b_l_pick .nil pass0 (pa_cons (pv 0) (pa_cons (pv 6) pa_nil))) pa_nil))) (pe_slice sl_tupA (pv 1) (po_some (pv 2)) po_none))))) pss_nil) 
        (pss_cons (ps_if (pt_cmpR op_eq (pv 4) pe_int (nomark _)) 
          (pss_cons (ps_setLc (i := 7) (own := [("_law_turn", 8)]) (g := gName 8) rfl sc_l_bent.nd rfl rfl (sw_true rfl rfl rfl (by decide +kernel)) (pi_range1 rfl T.m_range (pa_cons (pe_call G_l_draw (hr.mono (by decide)) (by rfl) g_l_draw F_l_draw.kp b_l_draw .nil pass0 (pa_cons (pv 0) (pa_cons pe_int pa_nil))) pa_nil)) (blkOk_by (N := ["_law_pool_here", "_law_items", "_law_at", "_law_other", "_law_way", "_law_word", "_law_odd", "_law_inner", "_law_turn"]) (sc := defScope s_l_bent) (by decide +kernel)) (fun _ _ _ _ _ => pg_name (i := 8) sc_l_bent.nd rfl (.inl rfl)) (fun _ _ _ _ _ => pts_nil) (fun _ _ _ _ _ => (pe_call G_l_pick hr (by rfl) g_l_pick F_l_pick.kp b_l_pick .nil pass0 (pa_cons (pv 0) (pa_cons (pe_op (r := rCat) op_cat (pv 5) (pe_lst (pa_cons pe_non (pa_cons (pe_tup (pa_cons pe_str (pa_cons pe_str (pa_cons (pe_tup pa_nil) pa_nil)))) (pa_cons (pe_tup (pa_cons pe_str pa_nil)) pa_nil))))) pa_nil))))) 
          (pss_one (ps_ret (pe_op op_catA (pe_op op_catA (pe_slice sl_tupA (pv 1) po_none (po_some (pv 2))) (pe_tup (pa_cons (pe_tup (pa_cons pe_str (pa_cons pe_str (pa_cons (pe_callTy call_tuple_of (by rfl) T.m_tuple (by decide +kernel) (pa_cons (pv 7) pa_nil)) pa_nil)))) pa_nil))) (pe_slice sl_tupA (pv 1) (po_some (pv 2)) po_none))))) pss_nil) 
        (pss_cons (ps_if (pt_cmpR op_eq (pv 4) pe_int (nomark _)) 
          (pss_one (ps_ret (pe_op op_catA (pv 1) (pe_op op_repTA (pe_tup (pa_cons (pe_tup (pa_cons pe_str pa_nil)) pa_nil)) (pe_call G_l_draw (hr.mono (by decide)) (by rfl) g_l_draw F_l_draw.kp b_l_draw .nil pass0 (pa_cons (pv 0) (pa_cons pe_int pa_nil))))))) pss_nil) 
        (pss_one (ps_ret (pe_ifExp (pt_cmpR op_eq (pv 4) pe_int (nomark _)) (pe_op op_catA (pe_slice sl_tupA (pv 1) po_none (po_some (pv 2))) (pe_revT (pe_slice sl_tupA (pv 1) (po_some (pv 2)) po_none))) (pe_slice sl_tupA (pv 1) po_none (po_some (pv 2)))))))))))))), ?_⟩
    have g : Go p R H R H := k.go
    obtain ⟨b, xs, rfl, hs, ha⟩ : ∃ (b : Addr) (xs : List V), x = .ref b ∧ SqT K R b xs ∧ DpAll K R xs ds := by
      cases hd with
      | tup h1 h2 => exact ⟨_, _, rfl, h1, h2⟩
    have hxl := dpAll_len ha
    refine ⟨_, rfl, _, rfl, b, xs, rfl, .inr (Same.seqT (g.same.trans g.rest.1) hs), _, _, rfl, rfl, p, _, _, rfl, by omega, g.rest, fun r1 H_r1 r10 r11 gi => ?_⟩
    replace g := g.trans gi
    replace hd := dp_same gi.same _ _ hd
    refine ⟨_, rfl, _, rfl, b, xs, rfl, .inr (Same.seqT (g.same.trans g.rest.1) hs), _, _, rfl, rfl, p, _, _, rfl, by omega, g.rest, fun r2 H_r2 r20 r21 gi => ?_⟩
    replace g := g.trans gi
    replace hd := dp_same gi.same _ _ hd
    refine ⟨_, _, rfl, ?_⟩
    refine ⟨_, rfl, p, 10, _, rfl, by decide, g.rest, fun r3 H_r3 r30 r31 gi => ?_⟩
    replace g := g.trans gi
    replace hd := dp_same gi.same _ _ hd
    refine ⟨(by show 1 ≤ sizeLine; decide), fun w0 hw0 => ?_⟩
    obtain ⟨gi, dw0⟩ := tup_new (K := K) (vs := [.str "leave"]) (ds := [.str "leave"]) g.rest hw0 (.cons (.str _) .nil)
    replace g := g.trans gi
    replace hd := dp_same gi.same _ _ hd
    refine ⟨(by show 1 ≤ sizeLine; decide), fun w1 hw1 => ?_⟩
    obtain ⟨gi, dw1⟩ := tup_new (K := K) (vs := [.str "enter"]) (ds := [.str "enter"]) g.rest hw1 (.cons (.str _) .nil)
    replace g := g.trans gi
    replace hd := dp_same gi.same _ _ hd
    replace dw0 := dp_same gi.same _ _ dw0
    refine ⟨(by show 1 ≤ sizeLine; decide), fun w2 hw2 => ?_⟩
    obtain ⟨gi, dw2⟩ := tup_new (K := K) (vs := [.str "lock"]) (ds := [.str "lock"]) g.rest hw2 (.cons (.str _) .nil)
    replace g := g.trans gi
    replace hd := dp_same gi.same _ _ hd
    replace dw0 := dp_same gi.same _ _ dw0
    replace dw1 := dp_same gi.same _ _ dw1
    refine ⟨(by show 1 ≤ sizeLine; decide), fun w3 hw3 => ?_⟩
    obtain ⟨gi, dw3⟩ := tup_new (K := K) (vs := [.str "unlock"]) (ds := [.str "unlock"]) g.rest hw3 (.cons (.str _) .nil)
    replace g := g.trans gi
    replace hd := dp_same gi.same _ _ hd
    replace dw0 := dp_same gi.same _ _ dw0
    replace dw1 := dp_same gi.same _ _ dw1
    replace dw2 := dp_same gi.same _ _ dw2
    refine ⟨(by show 1 ≤ sizeLine; decide), fun w4 hw4 => ?_⟩
    obtain ⟨gi, dw4⟩ := tup_new (K := K) (vs := [.str "let"]) (ds := [.str "let"]) g.rest hw4 (.cons (.str _) .nil)
    replace g := g.trans gi
    replace hd := dp_same gi.same _ _ hd
    replace dw0 := dp_same gi.same _ _ dw0
    replace dw1 := dp_same gi.same _ _ dw1
    replace dw2 := dp_same gi.same _ _ dw2
    replace dw3 := dp_same gi.same _ _ dw3
    refine ⟨(by show 1 ≤ sizeLine; decide), fun w5 hw5 => ?_⟩
    obtain ⟨gi, dw5⟩ := tup_new (K := K) (vs := [.str "look"]) (ds := [.str "look"]) g.rest hw5 (.cons (.str _) .nil)
    replace g := g.trans gi
    replace hd := dp_same gi.same _ _ hd
    replace dw0 := dp_same gi.same _ _ dw0
    replace dw1 := dp_same gi.same _ _ dw1
    replace dw2 := dp_same gi.same _ _ dw2
    replace dw3 := dp_same gi.same _ _ dw3
    replace dw4 := dp_same gi.same _ _ dw4
    refine ⟨(by show 1 ≤ sizeLine; decide), fun w6 hw6 => ?_⟩
    obtain ⟨gi, dw6⟩ := tup_new (K := K) (vs := [.str "hold"]) (ds := [.str "hold"]) g.rest hw6 (.cons (.str _) .nil)
    replace g := g.trans gi
    replace hd := dp_same gi.same _ _ hd
    replace dw0 := dp_same gi.same _ _ dw0
    replace dw1 := dp_same gi.same _ _ dw1
    replace dw2 := dp_same gi.same _ _ dw2
    replace dw3 := dp_same gi.same _ _ dw3
    replace dw4 := dp_same gi.same _ _ dw4
    replace dw5 := dp_same gi.same _ _ dw5
    refine ⟨(by show 7 ≤ sizeLine; decide), fun LW hLW => ?_⟩
    obtain ⟨gi, lW⟩ := ld_new (K := K) (vs := [V.ref w0, V.ref w1, V.ref w2, V.ref w3, V.ref w4, V.ref w5, V.ref w6]) (ds := wordD) g.rest hLW (.cons dw0 (.cons dw1 (.cons dw2 (.cons dw3 (.cons dw4 (.cons dw5 (.cons dw6 .nil)))))))
    replace g := g.trans gi
    replace hd := dp_same gi.same _ _ hd
    refine ⟨(by show 2 ≤ sizeLine; decide), fun tt htt => ?_⟩
    have gi := go_new2 (.tup [.int r3, .ref LW]) g.rest htt
    replace g := g.trans gi
    replace hd := dp_same gi.same _ _ hd
    replace lW := lW.same gi.same
    refine ⟨tt, _, rfl, .inl (.inl upd_same), rfl, _, _, rfl, _, [], rfl, rfl, ?_⟩
    by_cases w0 : r3 = 0
    · refine ⟨_, rfl, rfl, _, rfl, iteB (c := true) (by rw [w0]; rfl) (iteT ?_)⟩
      refine ⟨_, rfl, _, rfl, _, rfl, slice_ok (K := K) g.rest hd fun z1 R1 H1 gi y1 => ?_⟩
      replace g := g.trans gi
      replace hd := dp_same gi.same _ _ hd
      replace lW := lW.same gi.same
      have c1 := cutG_len ds none (some r1)
      refine ⟨_, rfl, _, rfl, _, _, rfl, rfl, _, rfl, slice_lo (K := K) g.rest hd fun z2 R2 H2 gi y2 => ?_⟩
      replace g := g.trans gi
      replace hd := dp_same gi.same _ _ hd
      replace lW := lW.same gi.same
      replace y1 := dp_same gi.same _ _ y1
      have c2 := cut_three ds r1 (by omega)
      refine cat_ok (K := K) g.rest y1 y2 (by omega) fun z3 R3 H3 gi y3 => ?_
      replace g := g.trans gi
      replace hd := dp_same gi.same _ _ hd
      replace lW := lW.same gi.same
      refine q _ _ _ _ g y3 (fun e he => ?_) ?_
      · rcases List.mem_append.mp he with h | h <;> exact hb _ (cutG_mem h)
      · rw [List.length_append]; omega
    refine ⟨_, rfl, rfl, _, rfl, iteB (c := false) (decide_eq_false fun z => w0 (V.int.inj z)) (iteF ?_)⟩
    by_cases w1 : r3 = 1
    · refine ⟨_, rfl, rfl, _, rfl, iteB (c := true) (by rw [w1]; rfl) (iteT ?_)⟩
      refine ⟨_, rfl, _, rfl, _, rfl, slice_ok (K := K) g.rest hd fun z1 R1 H1 gi y1 => ?_⟩
      replace g := g.trans gi
      replace hd := dp_same gi.same _ _ hd
      replace lW := lW.same gi.same
      have c1 := cutG_len ds none (some r1)
      refine ⟨_, rfl, _, rfl, _, rfl, _, rfl, _, _, rfl, rfl, _, rfl, slice_ok (K := K) g.rest hd fun z2 R2 H2 gi y2 => ?_⟩
      replace g := g.trans gi
      replace hd := dp_same gi.same _ _ hd
      replace lW := lW.same gi.same
      replace y1 := dp_same gi.same _ _ y1
      have c2 := cut_one ds r2 (by omega)
      refine cat_ok (K := K) g.rest y1 y2 (by omega) fun z3 R3 H3 gi y3 => ?_
      replace g := g.trans gi
      replace hd := dp_same gi.same _ _ hd
      replace lW := lW.same gi.same
      refine ⟨_, rfl, _, rfl, _, rfl, slice_lo (K := K) g.rest hd fun z4 R4 H4 gi y4 => ?_⟩
      replace g := g.trans gi
      replace hd := dp_same gi.same _ _ hd
      replace lW := lW.same gi.same
      replace y3 := dp_same gi.same _ _ y3
      have c4 := cut_two ds r1 (by omega) (by omega)
      refine cat_ok (K := K) g.rest y3 y4 (by rw [List.length_append]; omega) fun z5 R5 H5 gi y5 => ?_
      replace g := g.trans gi
      replace hd := dp_same gi.same _ _ hd
      replace lW := lW.same gi.same
      refine q _ _ _ _ g y5 (fun e he => ?_) ?_
      · rcases List.mem_append.mp he with h | h
        · rcases List.mem_append.mp h with h | h <;> exact hb _ (cutG_mem h)
        · exact hb _ (cutG_mem h)
      · rw [List.length_append, List.length_append]; omega
    refine ⟨_, rfl, rfl, _, rfl, iteB (c := false) (decide_eq_false fun z => w1 (V.int.inj z)) (iteF ?_)⟩
    refine ⟨_, rfl, _, _, rfl, rfl, _, rfl, ite2 (fun w4 => ?_) (fun w4 => ?_)⟩
    · clear w0 w1
      refine ⟨_, rfl, _, rfl, _, rfl, slice_ok (K := K) g.rest hd fun z1 R1 H1 gi y1 => ?_⟩
      replace g := g.trans gi
      replace hd := dp_same gi.same _ _ hd
      replace lW := lW.same gi.same
      have c1 := cutG_len ds none (some r1)
      refine ⟨_, rfl, _, rfl, ?_⟩
      refine ⟨(by show 0 ≤ sizeLine; decide), fun t0 ht0 => ?_⟩
      obtain ⟨gi, dt0⟩ := tup_new (K := K) (vs := []) (ds := []) g.rest ht0 .nil
      replace g := g.trans gi
      replace hd := dp_same gi.same _ _ hd
      replace lW := lW.same gi.same
      replace y1 := dp_same gi.same _ _ y1
      refine ⟨(by show 3 ≤ sizeLine; decide), fun t1 ht1 => ?_⟩
      obtain ⟨gi, dt1⟩ := tup_new (K := K) (vs := [.str "ask", .str "m", .ref t0]) (ds := [.str "ask", .str "m", (.tuple [])]) g.rest ht1 (.cons (.str _) (.cons (.str _) (.cons dt0 .nil)))
      replace g := g.trans gi
      replace hd := dp_same gi.same _ _ hd
      replace lW := lW.same gi.same
      replace y1 := dp_same gi.same _ _ y1
      replace dt0 := dp_same gi.same _ _ dt0
      refine ⟨(by show 1 ≤ sizeLine; decide), fun t2 ht2 => ?_⟩
      obtain ⟨gi, dt2⟩ := tup_new (K := K) (vs := [.str "try"]) (ds := [.str "try"]) g.rest ht2 (.cons (.str _) .nil)
      replace g := g.trans gi
      replace hd := dp_same gi.same _ _ hd
      replace lW := lW.same gi.same
      replace y1 := dp_same gi.same _ _ y1
      replace dt0 := dp_same gi.same _ _ dt0
      replace dt1 := dp_same gi.same _ _ dt1
      refine ⟨(by show 2 ≤ sizeLine; decide), fun LX hLX => ?_⟩
      obtain ⟨gi, lX⟩ := ld_new (K := K) (vs := [V.ref t1, V.ref t2]) (ds := moreD) g.rest hLX (.cons dt1 (.cons dt2 .nil))
      replace g := g.trans gi
      replace hd := dp_same gi.same _ _ hd
      replace lW := lW.same gi.same
      replace y1 := dp_same gi.same _ _ y1
      replace dt0 := dp_same gi.same _ _ dt0
      refine catL (K := K) g.rest lW lX (by decide) fun xW RW HW gi lY => ?_
      replace g := g.trans gi
      replace hd := dp_same gi.same _ _ hd
      replace lW := lW.same gi.same
      replace y1 := dp_same gi.same _ _ y1
      obtain ⟨la, lv, e1, e2, e3⟩ := id lY
      cases e1
      refine ⟨p, _, _, lv, rfl, .inl (.inl e2), (by rw [dpAll_len e3]; decide), g.rest, fun zz Hp hzz gi => ?_⟩
      obtain ⟨ez, hez, dz⟩ := dpAll_mem e3 hzz
      have hz : ItB ez := word_b ez hez
      clear e2 e3
      replace g := g.trans gi
      replace hd := dp_same gi.same _ _ hd
      replace lW := lW.same gi.same
      replace y1 := dp_same gi.same _ _ y1
      replace dz := dp_same gi.same _ _ dz
      refine ⟨(by show 1 ≤ sizeLine; decide), fun t9 ht9 => ?_⟩
      obtain ⟨gi, dt9⟩ := tup_new (K := K) (vs := [zz]) (ds := [ez]) g.rest ht9 (.cons dz .nil)
      replace g := g.trans gi
      replace hd := dp_same gi.same _ _ hd
      replace lW := lW.same gi.same
      replace y1 := dp_same gi.same _ _ y1
      replace dz := dp_same gi.same _ _ dz
      refine cat_ok (K := K) g.rest y1 dt9 (by rw [List.length_singleton]; omega) fun z7 R7 H7 gi y7 => ?_
      replace g := g.trans gi
      replace hd := dp_same gi.same _ _ hd
      replace lW := lW.same gi.same
      refine ⟨_, rfl, _, rfl, _, rfl, slice_lo (K := K) g.rest hd fun z8 R8 H8 gi y8 => ?_⟩
      replace g := g.trans gi
      replace hd := dp_same gi.same _ _ hd
      replace lW := lW.same gi.same
      replace y7 := dp_same gi.same _ _ y7
      have c4 := cut_two ds r1 (by omega) (by omega)
      refine cat_ok (K := K) g.rest y7 y8 (by rw [List.length_append, List.length_singleton]; omega) fun z9 R9 H9 gi y9 => ?_
      replace g := g.trans gi
      replace hd := dp_same gi.same _ _ hd
      replace lW := lW.same gi.same
      refine q _ _ _ _ g y9 (fun e he => ?_) ?_
      · simp only [List.mem_append, List.mem_singleton] at he
        rcases he with (h | rfl) | h
        · exact hb _ (cutG_mem h)
        · exact hz
        · exact hb _ (cutG_mem h)
      · rw [List.length_append, List.length_append, List.length_singleton]; omega
    by_cases w5 : r3 = 5
    · refine ⟨_, rfl, rfl, _, rfl, iteB (c := true) (by rw [w5]; rfl) (iteT ?_)⟩
      refine ⟨(by show 1 ≤ sizeLine; decide), fun t0 ht0 => ?_⟩
      obtain ⟨gi, dt0⟩ := tup_new (K := K) (vs := [.str "Look"]) (ds := [.str "Look"]) g.rest ht0 (.cons (.str _) .nil)
      replace g := g.trans gi
      replace hd := dp_same gi.same _ _ hd
      replace lW := lW.same gi.same
      refine ⟨(by show 1 ≤ sizeLine; decide), fun t1 ht1 => ?_⟩
      obtain ⟨gi, dt1⟩ := lst_new (K := K) (vs := [.str "look"]) (ds := [.str "look"]) g.rest ht1 (.cons (.str _) .nil)
      replace g := g.trans gi
      replace hd := dp_same gi.same _ _ hd
      replace lW := lW.same gi.same
      replace dt0 := dp_same gi.same _ _ dt0
      refine ⟨(by show 1 ≤ sizeLine; decide), fun t2 ht2 => ?_⟩
      obtain ⟨gi, dt2⟩ := tup_new (K := K) (vs := [.str "start"]) (ds := [.str "start"]) g.rest ht2 (.cons (.str _) .nil)
      replace g := g.trans gi
      replace hd := dp_same gi.same _ _ hd
      replace lW := lW.same gi.same
      replace dt0 := dp_same gi.same _ _ dt0
      replace dt1 := dp_same gi.same _ _ dt1
      refine ⟨(by show 2 ≤ sizeLine; decide), fun t3 ht3 => ?_⟩
      obtain ⟨gi, dt3⟩ := tup_new (K := K) (vs := [.str "start", .str "A"]) (ds := [.str "start", .str "A"]) g.rest ht3 (.cons (.str _) (.cons (.str _) .nil))
      replace g := g.trans gi
      replace hd := dp_same gi.same _ _ hd
      replace lW := lW.same gi.same
      replace dt0 := dp_same gi.same _ _ dt0
      replace dt1 := dp_same gi.same _ _ dt1
      replace dt2 := dp_same gi.same _ _ dt2
      refine ⟨(by show 0 ≤ sizeLine; decide), fun t4 ht4 => ?_⟩
      obtain ⟨gi, dt4⟩ := lst_new (K := K) (vs := []) (ds := []) g.rest ht4 .nil
      replace g := g.trans gi
      replace hd := dp_same gi.same _ _ hd
      replace lW := lW.same gi.same
      replace dt0 := dp_same gi.same _ _ dt0
      replace dt1 := dp_same gi.same _ _ dt1
      replace dt2 := dp_same gi.same _ _ dt2
      replace dt3 := dp_same gi.same _ _ dt3
      refine ⟨(by show 3 ≤ sizeLine; decide), fun t5 ht5 => ?_⟩
      obtain ⟨gi, dt5⟩ := tup_new (K := K) (vs := [.str "ask", .str "m", .ref t4]) (ds := [.str "ask", .str "m", (.list [])]) g.rest ht5 (.cons (.str _) (.cons (.str _) (.cons dt4 .nil)))
      replace g := g.trans gi
      replace hd := dp_same gi.same _ _ hd
      replace lW := lW.same gi.same
      replace dt0 := dp_same gi.same _ _ dt0
      replace dt1 := dp_same gi.same _ _ dt1
      replace dt2 := dp_same gi.same _ _ dt2
      replace dt3 := dp_same gi.same _ _ dt3
      replace dt4 := dp_same gi.same _ _ dt4
      refine ⟨(by show 0 ≤ sizeLine; decide), fun t6 ht6 => ?_⟩
      obtain ⟨gi, dt6⟩ := tup_new (K := K) (vs := []) (ds := []) g.rest ht6 .nil
      replace g := g.trans gi
      replace hd := dp_same gi.same _ _ hd
      replace lW := lW.same gi.same
      replace dt0 := dp_same gi.same _ _ dt0
      replace dt1 := dp_same gi.same _ _ dt1
      replace dt2 := dp_same gi.same _ _ dt2
      replace dt3 := dp_same gi.same _ _ dt3
      replace dt4 := dp_same gi.same _ _ dt4
      replace dt5 := dp_same gi.same _ _ dt5
      refine ⟨(by show 0 ≤ sizeLine; decide), fun t7 ht7 => ?_⟩
      obtain ⟨gi, dt7⟩ := tup_new (K := K) (vs := []) (ds := []) g.rest ht7 .nil
      replace g := g.trans gi
      replace hd := dp_same gi.same _ _ hd
      replace lW := lW.same gi.same
      replace dt0 := dp_same gi.same _ _ dt0
      replace dt1 := dp_same gi.same _ _ dt1
      replace dt2 := dp_same gi.same _ _ dt2
      replace dt3 := dp_same gi.same _ _ dt3
      replace dt4 := dp_same gi.same _ _ dt4
      replace dt5 := dp_same gi.same _ _ dt5
      replace dt6 := dp_same gi.same _ _ dt6
      refine ⟨(by show 3 ≤ sizeLine; decide), fun t8 ht8 => ?_⟩
      obtain ⟨gi, dt8⟩ := tup_new (K := K) (vs := [.str "ask", .str "", .ref t7]) (ds := [.str "ask", .str "", (.tuple [])]) g.rest ht8 (.cons (.str _) (.cons (.str _) (.cons dt7 .nil)))
      replace g := g.trans gi
      replace hd := dp_same gi.same _ _ hd
      replace lW := lW.same gi.same
      replace dt0 := dp_same gi.same _ _ dt0
      replace dt1 := dp_same gi.same _ _ dt1
      replace dt2 := dp_same gi.same _ _ dt2
      replace dt3 := dp_same gi.same _ _ dt3
      replace dt4 := dp_same gi.same _ _ dt4
      replace dt5 := dp_same gi.same _ _ dt5
      replace dt6 := dp_same gi.same _ _ dt6
      replace dt7 := dp_same gi.same _ _ dt7
      refine ⟨(by show 10 ≤ sizeLine; decide), fun LX hLX => ?_⟩
      obtain ⟨gi, lY⟩ := ld_new (K := K) (vs := [V.non, V.int 5, V.str "look", V.ref t0, V.ref t1, V.ref t2, V.ref t3, V.ref t5, V.ref t6, V.ref t8]) (ds := oddB) g.rest hLX (.cons .non (.cons (.int 5) (.cons (.str _) (.cons dt0 (.cons dt1 (.cons dt2 (.cons dt3 (.cons dt5 (.cons dt6 (.cons dt8 .nil))))))))))
      replace g := g.trans gi
      replace hd := dp_same gi.same _ _ hd
      replace lW := lW.same gi.same
      replace dt4 := dp_same gi.same _ _ dt4
      replace dt7 := dp_same gi.same _ _ dt7
      refine ⟨_, rfl, _, rfl, _, rfl, slice_ok (K := K) g.rest hd fun z1 R1 H1 gi y1 => ?_⟩
      replace g := g.trans gi
      replace hd := dp_same gi.same _ _ hd
      replace lW := lW.same gi.same
      replace lY := lY.same gi.same
      have c1 := cutG_len ds none (some r1)
      refine ⟨_, rfl, _, rfl, ?_⟩
      obtain ⟨la, lv, e1, e2, e3⟩ := id lY
      cases e1
      refine ⟨p, _, _, lv, rfl, .inl (.inl e2), (by rw [dpAll_len e3]; decide), g.rest, fun zz Hp hzz gi => ?_⟩
      obtain ⟨ez, hez, dz⟩ := dpAll_mem e3 hzz
      have hz : ItB ez := odd_b ez hez
      clear e2 e3
      replace g := g.trans gi
      replace hd := dp_same gi.same _ _ hd
      replace lW := lW.same gi.same
      replace y1 := dp_same gi.same _ _ y1
      replace dz := dp_same gi.same _ _ dz
      refine ⟨(by show 1 ≤ sizeLine; decide), fun t9 ht9 => ?_⟩
      obtain ⟨gi, dt9⟩ := tup_new (K := K) (vs := [zz]) (ds := [ez]) g.rest ht9 (.cons dz .nil)
      replace g := g.trans gi
      replace hd := dp_same gi.same _ _ hd
      replace lW := lW.same gi.same
      replace y1 := dp_same gi.same _ _ y1
      replace dz := dp_same gi.same _ _ dz
      refine cat_ok (K := K) g.rest y1 dt9 (by rw [List.length_singleton]; omega) fun z7 R7 H7 gi y7 => ?_
      replace g := g.trans gi
      replace hd := dp_same gi.same _ _ hd
      replace lW := lW.same gi.same
      refine ⟨_, rfl, _, rfl, _, rfl, slice_lo (K := K) g.rest hd fun z8 R8 H8 gi y8 => ?_⟩
      replace g := g.trans gi
      replace hd := dp_same gi.same _ _ hd
      replace lW := lW.same gi.same
      replace y7 := dp_same gi.same _ _ y7
      have c4 := cut_two ds r1 (by omega) (by omega)
      refine cat_ok (K := K) g.rest y7 y8 (by rw [List.length_append, List.length_singleton]; omega) fun z9 R9 H9 gi y9 => ?_
      replace g := g.trans gi
      replace hd := dp_same gi.same _ _ hd
      replace lW := lW.same gi.same
      refine q _ _ _ _ g y9 (fun e he => ?_) ?_
      · simp only [List.mem_append, List.mem_singleton] at he
        rcases he with (h | rfl) | h
        · exact hb _ (cutG_mem h)
        · exact hz
        · exact hb _ (cutG_mem h)
      · rw [List.length_append, List.length_append, List.length_singleton]; omega
    refine ⟨_, rfl, rfl, _, rfl, iteB (c := false) (decide_eq_false fun z => w5 (V.int.inj z)) (iteF ?_)⟩
    by_cases w6 : r3 = 6
    · refine ⟨_, rfl, rfl, _, rfl, iteB (c := true) (by rw [w6]; rfl) (iteT ?_)⟩
      refine ⟨_, rfl, p, 6, _, rfl, by decide, g.rest, fun r6 H_r6 r60 r61 gi => ?_⟩
      replace g := g.trans gi
      replace hd := dp_same gi.same _ _ hd
      replace lW := lW.same gi.same
      refine ⟨_, rfl, by omega, by omega, fun DI hDI => ?_⟩
      refine lc_go walk_range (n := r6.toNat) (by omega) g.rest hDI (fun _ _ _ => trivial) (fun R' y => ∃ d ∈ wordD ++ moreI, Dp K R' y d) (fun _ _ _ s h => h.elim fun d h => ⟨d, h.1, dp_same s _ _ h.2⟩) ?_ ?_
      · rintro m x R9 H9 H9' hm g9 ⟨rfl, rfl⟩ C' E' hC
        refine ⟨rfl, yes_then ?_⟩
        have lW9 := lW.same g9.same
        refine ⟨_, rfl, _, rfl, ?_⟩
        refine ⟨Nat.zero_le _, fun t0 ht0 => ?_⟩
        obtain ⟨ga, dt0⟩ := tup_new (K := K) (vs := []) (ds := []) g9.rest ht0 .nil
        refine ⟨(by show 3 ≤ sizeLine; decide), fun t1 ht1 => ?_⟩
        obtain ⟨gb, dt1⟩ := tup_new (K := K) (vs := [.str "ask", .str "m", .ref t0]) (ds := [.str "ask", .str "m", .tuple []]) ga.rest ht1 (.cons (.str _) (.cons (.str _) (.cons dt0 .nil)))
        refine ⟨(by show 1 ≤ sizeLine; decide), fun t2 ht2 => ?_⟩
        obtain ⟨gc, dt2⟩ := tup_new (K := K) (vs := [.str "touch"]) (ds := [.str "touch"]) gb.rest ht2 (.cons (.str _) .nil)
        refine ⟨(by show 3 ≤ sizeLine; decide), fun LX hLX => ?_⟩
        obtain ⟨ge, lX⟩ := ld_new (K := K) (vs := [V.non, .ref t1, .ref t2]) (ds := moreI) gc.rest hLX (.cons .non (.cons (dp_same gc.same _ _ dt1) (.cons dt2 .nil)))
        have gg := ga.trans (gb.trans (gc.trans ge))
        refine catL (K := K) gg.rest (lW9.same gg.same) lX (by decide) fun xW RW HW gi lY => ?_
        obtain ⟨la, lv, e1, e2, e3⟩ := id lY
        cases e1
        exact ⟨p, la, _, lv, rfl, .inl (.inl e2), (by rw [dpAll_len e3]; decide), gi.rest, fun zz Hp hzz gj => hC _ _ _ (gg.trans (gi.trans gj)) (dpAll_mem (dpAll_same gj.same _ _ e3) hzz)⟩
      intro R6 H6 ys gi eD hl hP
      obtain ⟨di, hdi1, hdi2, hdi3⟩ := dpAll_pick hP
      replace g := g.trans gi
      replace hd := dp_same gi.same _ _ hd
      replace lW := lW.same gi.same
      have lI : LD K R6 (.ref DI) di := ⟨DI, ys, rfl, eD, hdi1⟩
      refine ⟨_, rfl, _, rfl, _, rfl, slice_ok (K := K) g.rest hd fun z1 R1 H1 gi y1 => ?_⟩
      replace g := g.trans gi
      replace hd := dp_same gi.same _ _ hd
      replace lW := lW.same gi.same
      replace lI := lI.same gi.same
      have c1 := cutG_len ds none (some r1)
      obtain ⟨la, lv, e1, e2, e3⟩ := id lI
      cases e1
      refine ⟨_, rfl, DI, lv, rfl, .inl ⟨.inl (.inl (g.rest.1 _ _ e2)), fun t7 ht7 => ?_⟩⟩
      obtain ⟨gi, dt7⟩ := tup_new (K := K) g.rest ht7 e3
      replace g := g.trans gi
      replace hd := dp_same gi.same _ _ hd
      replace lW := lW.same gi.same
      replace y1 := dp_same gi.same _ _ y1
      refine ⟨(by show 3 ≤ sizeLine; decide), fun t8 ht8 => ?_⟩
      obtain ⟨gi, dz⟩ := tup_new (K := K) (vs := [.str "ask", .str "m", .ref t7]) (ds := [.str "ask", .str "m", .tuple di]) g.rest ht8 (.cons (.str _) (.cons (.str _) (.cons dt7 .nil)))
      replace g := g.trans gi
      replace hd := dp_same gi.same _ _ hd
      replace lW := lW.same gi.same
      replace y1 := dp_same gi.same _ _ y1
      obtain ⟨zz, ezz⟩ : ∃ zz : V, zz = .ref t8 := ⟨_, rfl⟩
      rw [← ezz] at dz ⊢
      obtain ⟨ez, eez⟩ : ∃ ez : PyData, ez = .tuple [.str "ask", .str "m", .tuple di] := ⟨_, rfl⟩
      rw [← eez] at dz
      have hz : ItB ez := by rw [eez]; exact ask_b (by omega) hdi3
      refine ⟨(by show 1 ≤ sizeLine; decide), fun t9 ht9 => ?_⟩
      obtain ⟨gi, dt9⟩ := tup_new (K := K) (vs := [zz]) (ds := [ez]) g.rest ht9 (.cons dz .nil)
      replace g := g.trans gi
      replace hd := dp_same gi.same _ _ hd
      replace lW := lW.same gi.same
      replace y1 := dp_same gi.same _ _ y1
      replace dz := dp_same gi.same _ _ dz
      refine cat_ok (K := K) g.rest y1 dt9 (by rw [List.length_singleton]; omega) fun z7 R7 H7 gi y7 => ?_
      replace g := g.trans gi
      replace hd := dp_same gi.same _ _ hd
      replace lW := lW.same gi.same
      refine ⟨_, rfl, _, rfl, _, rfl, slice_lo (K := K) g.rest hd fun z8 R8 H8 gi y8 => ?_⟩
      replace g := g.trans gi
      replace hd := dp_same gi.same _ _ hd
      replace lW := lW.same gi.same
      replace y7 := dp_same gi.same _ _ y7
      have c4 := cut_two ds r1 (by omega) (by omega)
      refine cat_ok (K := K) g.rest y7 y8 (by rw [List.length_append, List.length_singleton]; omega) fun z9 R9 H9 gi y9 => ?_
      replace g := g.trans gi
      replace hd := dp_same gi.same _ _ hd
      replace lW := lW.same gi.same
      refine q _ _ _ _ g y9 (fun e he => ?_) ?_
      · simp only [List.mem_append, List.mem_singleton] at he
        rcases he with (h | rfl) | h
        · exact hb _ (cutG_mem h)
        · exact hz
        · exact hb _ (cutG_mem h)
      · rw [List.length_append, List.length_append, List.length_singleton]; omega
    refine ⟨_, rfl, rfl, _, rfl, iteB (c := false) (decide_eq_false fun z => w6 (V.int.inj z)) (iteF ?_)⟩
    by_cases w7 : r3 = 7
    · refine ⟨_, rfl, rfl, _, rfl, iteB (c := true) (by rw [w7]; rfl) (iteT ?_)⟩
      · skip
        refine ⟨_, rfl, ?_⟩
        refine ⟨(by show 1 ≤ sizeLine; decide), fun t0 ht0 => ?_⟩
        obtain ⟨gi, dt0⟩ := tup_new (K := K) (vs := [.str "use"]) (ds := [.str "use"]) g.rest ht0 (.cons (.str _) .nil)
        replace g := g.trans gi
        replace hd := dp_same gi.same _ _ hd
        replace lW := lW.same gi.same
        refine ⟨(by show 1 ≤ sizeLine; decide), fun t1 ht1 => ?_⟩
        obtain ⟨gi, dt1⟩ := tup_new (K := K) (vs := [V.ref t0]) (ds := [T1 "use"]) g.rest ht1 (.cons dt0 .nil)
        replace g := g.trans gi
        replace hd := dp_same gi.same _ _ hd
        replace lW := lW.same gi.same
        refine ⟨_, rfl, p, 9, _, rfl, by decide, g.rest, fun r7 H_r7 r70 r71 gi => ?_⟩
        replace g := g.trans gi
        replace hd := dp_same gi.same _ _ hd
        replace lW := lW.same gi.same
        replace dt1 := dp_same gi.same _ _ dt1
        have use_b : ItB (T1 "use") := by decide +kernel
        obtain ⟨a1, v1, e1, e2, e3⟩ : ∃ (a : Addr) (vs : List V), V.ref t1 = .ref a ∧ SqT K _ a vs ∧ DpAll K _ vs [T1 "use"] := by
          cases dt1 with
          | tup h1 h2 => exact ⟨_, _, rfl, h1, h2⟩
        have ev := dpAll_len e3
        refine ⟨a1, r7, v1, e1, rfl, Same.seqT g.rest.1 e2, (fun z => by rw [z] at ev; cases ev), r70, by omega, by rw [ev]; decide, fun hk => ?_, fun hk tk htk => ?_⟩
        · refine cat_ok (K := K) g.rest hd (.tup e2 e3) (by rw [List.length_singleton]; omega) fun z3 R3 H3 gi y3 => ?_
          refine q _ _ _ _ (g.trans gi) y3 (fun e he => ?_) ?_
          · rcases List.mem_append.mp he with h | h
            · exact hb _ h
            · rw [List.mem_singleton.mp h]
              exact use_b
          · rw [List.length_append, List.length_singleton]
            omega
        · have hrp := dpAll_rep (K := K) e3 r7.toNat
          have hrl : (List.replicate r7.toNat [T1 "use"]).flatten.length = r7.toNat := by simp
          obtain ⟨gi, dk⟩ := tup_new (K := K) g.rest htk hrp
          refine cat_ok (K := K) (g.trans gi).rest (dp_same gi.same _ _ hd) dk (by rw [hrl]; omega) fun z3 R3 H3 gj y3 => ?_
          refine q _ _ _ _ ((g.trans gi).trans gj) y3 (fun e he => ?_) ?_
          · rcases List.mem_append.mp he with h | h
            · exact hb _ h
            · obtain ⟨l1, h1, h2⟩ := List.mem_flatten.mp h
              rw [(List.mem_replicate.mp h1).2, List.mem_singleton] at h2
              rw [h2]
              exact use_b
          · rw [List.length_append, hrl]
            omega

    refine ⟨_, rfl, rfl, _, rfl, iteB (c := false) (decide_eq_false fun z => w7 (V.int.inj z)) (iteF ?_)⟩
    refine ⟨_, rfl, rfl, _, rfl, ite2 (fun w8 => ?_) (fun w8 => ?_)⟩
    · · skip
        refine ⟨_, rfl, _, rfl, _, rfl, slice_ok (K := K) g.rest hd fun z1 R1 H1 gi y1 => ?_⟩
        replace g := g.trans gi
        replace hd := dp_same gi.same _ _ hd
        replace lW := lW.same gi.same
        have c1 := cutG_len ds none (some r1)
        refine ⟨_, rfl, _, rfl, _, rfl, slice_lo (K := K) g.rest hd fun z2 R2 H2 gi y2 => ?_⟩
        replace g := g.trans gi
        replace hd := dp_same gi.same _ _ hd
        replace lW := lW.same gi.same
        replace y1 := dp_same gi.same _ _ y1
        have c4 := cut_two ds r1 (by omega) (by omega)
        obtain ⟨a2, v2, e1, e2, e3⟩ : ∃ (a : Addr) (vs : List V), z2 = .ref a ∧ SqT K R2 a vs ∧ DpAll K R2 vs (cutG ds (some r1) none) := by
          cases y2 with
          | tup h1 h2 => exact ⟨_, _, rfl, h1, h2⟩
        refine ⟨a2, v2, e1, Same.seqT g.rest.1 e2, fun tk htk => ?_⟩
        obtain ⟨gi, dk⟩ := tup_new (K := K) g.rest htk (dpAll_rev e3)
        replace g := g.trans gi
        replace hd := dp_same gi.same _ _ hd
        replace lW := lW.same gi.same
        replace y1 := dp_same gi.same _ _ y1
        refine cat_ok (K := K) g.rest y1 dk (by rw [List.length_reverse]; omega) fun z3 R3 H3 gi y3 => ?_
        replace g := g.trans gi
        replace hd := dp_same gi.same _ _ hd
        replace lW := lW.same gi.same
        refine q _ _ _ _ g y3 (fun e he => ?_) ?_
        · rcases List.mem_append.mp he with h | h
          · exact hb _ (cutG_mem h)
          · exact hb _ (cutG_mem (List.mem_reverse.mp h))
        · rw [List.length_append, List.length_reverse]; omega
    · · skip
        refine ⟨_, rfl, _, rfl, _, rfl, slice_ok (K := K) g.rest hd fun z1 R1 H1 gi y1 => ?_⟩
        replace g := g.trans gi
        replace hd := dp_same gi.same _ _ hd
        replace lW := lW.same gi.same
        have c1 := cutG_len ds none (some r1)
        refine q _ _ _ _ g y1 (fun e he => ?_) ?_
        · exact hb _ (cutG_mem he)
        · omega
end
end K05

namespace K05
open PySem PySem.Spec PyProof.Rows StX L2 TL GG OO LY
theorem rowOk_out {ns ms : List Str} {t : Bool} : ∀ {a u l : Bool} {r : List PyData}, RowOk ns ms t a u l r → ∀ d ∈ r, (outOf d).length ≤ 4 := by
  intro a u l r h
  induction h with
  | nil => intro d hd; cases hd
  | lets _ => intro d hd; rw [List.mem_singleton] at hd; rw [hd]; exact Nat.zero_le _
  | plain hw _ ih => intro d hd; rcases List.mem_cons.mp hd with rfl | hd; exact Nat.zero_le _; exact ih d hd
  | start hn _ ih => intro d hd; rcases List.mem_cons.mp hd with rfl | hd; exact Nat.zero_le _; exact ih d hd
  | enter _ ih => intro d hd; rcases List.mem_cons.mp hd with rfl | hd; exact Nat.zero_le _; exact ih d hd
  | leave _ ih => intro d hd; rcases List.mem_cons.mp hd with rfl | hd; exact Nat.zero_le _; exact ih d hd
  | lock _ ih => intro d hd; rcases List.mem_cons.mp hd with rfl | hd; exact Nat.zero_le _; exact ih d hd
  | unlock _ ih => intro d hd; rcases List.mem_cons.mp hd with rfl | hd; exact Nat.zero_le _; exact ih d hd
  | ask hm ho h4 _ iho ih => intro d hd; rcases List.mem_cons.mp hd with rfl | hd; exact h4; exact ih d hd
theorem numB1_len (d : PyData) : (numB1 d).length ≤ 1 + (outOf d).length := by
  unfold numB1
  split
  · rw [List.length_cons, List.length_map]
    omega
  · show 1 ≤ _
    omega
theorem rowOk_b {ns ms : List Str} {t u l a : Bool} {r : List PyData} (h1 : NamesOk ns) (h2 : NamesOk ms) (h : RowOk ns ms t a u l r) : ∀ d ∈ r, ItB d := fun d hd => by
  have g := (rowOk_good h1 h2 h d hd).mono (m := 12) (by cases a <;> decide)
  have := rowOk_out h d hd
  exact ⟨g, by have := numB1_len d; omega⟩
theorem numB_b {ds : List PyData} (h : ∀ d ∈ ds, ItB d) : (numB ds).length ≤ 6 * ds.length := by
  induction ds with
  | nil => exact Nat.zero_le _
  | cons d r ih =>
    have e : numB (d :: r) = numB1 d ++ numB r := rfl
    rw [e, List.length_append, List.length_cons]
    have h1 := (h d List.mem_cons_self).2
    have h2 := ih fun d hd => h d (List.mem_cons_of_mem _ hd)
    omega
theorem row_good {ds : List PyData} (h : ∀ d ∈ ds, ItB d) (hl : ds.length ≤ 100) : GG.Good 60 (.tuple ds) := (GG.Good.tup (n := 59)).mpr ⟨by omega, fun d hd => GG.Good.mono (n := 12) (h d hd).1 (by decide)⟩
theorem names_b : NamesOk ["w"] ∧ NamesOk ["gone"] := by
  refine ⟨fun n hn => ?_, fun n hn => ?_⟩
  · rw [List.mem_singleton.mp hn]
    exact ⟨by unfold Sane; decide +kernel, by decide +kernel⟩
  · rw [List.mem_singleton.mp hn]
    exact ⟨by unfold Sane; decide +kernel, by decide +kernel⟩
theorem open_b : ∀ op ∈ opens, (∀ d ∈ op.map T1, ItB d) ∧ op.length ≤ 4 := by decide +kernel
theorem hand_b {ds : List PyData} (h : HandOk ["w"] ["gone"] ds) : (∀ d ∈ ds, ItB d) ∧ ds.length ≤ 14 := by
  obtain ⟨op, b, h1, rfl, h2, h3⟩ := h
  refine ⟨fun d hd => ?_, ?_⟩
  · rcases List.mem_append.mp hd with hd | hd
    · exact (open_b op h1).1 d hd
    · exact rowOk_b names_b.1 names_b.2 h2 d hd
  · rw [List.length_append, List.length_map]
    have := sizeR_len b
    omega
theorem work_b {ds : List PyData} (h : WorkOk ["w"] ["gone"] ds) : (∀ d ∈ ds, ItB d) ∧ ds.length ≤ 14 := by
  obtain ⟨h1, _, h3⟩ := h
  exact ⟨rowOk_b names_b.1 names_b.2 h1, by have := sizeR_len ds; omega⟩
def spLaw (K : PySem.W.Frag) : Sp := fun vs H Q _ => ∃ (a : Addr) (ns : List Int), vs = [.ref a] ∧ SqL K H a (ns.map V.int) ∧ ns.length ≤ 63 ∧ ∀ H', Q (.bl true) H'
section
variable {P : Program} {w : World} {K : PySem.W.Frag} {mg : Str → Option Value} {base : Heap} {lt0 lt1 lt2 lt3 lt4 : Tok} {t0 t1 t2 t3 t4 t5 t6 t7 t8 tF tO dC : Addr}
theorem sc_law : FnScope ["_law_script", "_law_k", "_law_cell", "_law_pool_here", "_law_turn", "_law_is_hand", "_law_names", "_law_items", "_law_again", "_law_thing"] ["_law_script"] (defScope s_law) := ⟨rfl, rfl, rfl, by decide +kernel, rfl, by decide +kernel, by decide +kernel⟩
theorem ok_l_law {f : Addr} {fd : FuncData} (F : Fun K "law" "law" s_law f fd) (T : Txt K mg lt0 lt1 lt2 lt3 lt4 t0 t1 t2 t3 t4 t5 t6 t7 t8 tF tO dC) {f1 : Addr} {fd1 : FuncData} (F_l_pool : Fun K "_law_pool" "_law_pool" s_l_pool f1 fd1) (b_l_pool : Binds K fd1 ["_law_cell", "_law_salt", "_law_many"] []) (g_l_pool : mg "_law_pool" = some (.ref f1)) (G_l_pool : FnOk P w K mg base CX0 2 f1 fd1 ["_law_cell", "_law_salt", "_law_many"] (spPool K)) {f2 : Addr} {fd2 : FuncData} (F_l_draw : Fun K "_law_draw" "_law_draw" s_l_draw f2 fd2) (b_l_draw : Binds K fd2 ["_law_pool_here", "_law_many"] []) (g_l_draw : mg "_law_draw" = some (.ref f2)) (G_l_draw : FnOk P w K mg base CX0 1 f2 fd2 ["_law_pool_here", "_law_many"] (spDraw K)) {f3 : Addr} {fd3 : FuncData} (F_l_hand : Fun K "_law_hand" "_law_hand" s_l_hand f3 fd3) (b_l_hand : Binds K fd3 ["_law_pool_here", "_law_names"] []) (g_l_hand : mg "_law_hand" = some (.ref f3)) (G_l_hand : FnOk P w K mg base CX0 5 f3 fd3 ["_law_pool_here", "_law_names"] (spHand K)) {f4 : Addr} {fd4 : FuncData} (F_l_work : Fun K "_law_work" "_law_work" s_l_work f4 fd4) (b_l_work : Binds K fd4 ["_law_pool_here", "_law_names"] []) (g_l_work : mg "_law_work" = some (.ref f4)) (G_l_work : FnOk P w K mg base CX0 5 f4 fd4 ["_law_pool_here", "_law_names"] (spWork K)) {f5 : Addr} {fd5 : FuncData} (F_l_bent : Fun K "_law_bent" "_law_bent" s_l_bent f5 fd5) (b_l_bent : Binds K fd5 ["_law_pool_here", "_law_items"] []) (g_l_bent : mg "_law_bent" = some (.ref f5)) (G_l_bent : FnOk P w K mg base CX0 3 f5 fd5 ["_law_pool_here", "_law_items"] (spBent K)) {f6 : Addr} {fd6 : FuncData} (F_l_heard : Fun K "_law_heard" "_law_heard" s_l_heard f6 fd6) (b_l_heard : Binds K fd6 ["_law_items", "_law_is_hand"] []) (g_l_heard : mg "_law_heard" = some (.ref f6)) (G_l_heard : FnOk P w K mg base CX0 11 f6 fd6 ["_law_items", "_law_is_hand"] (spHeard K)) {f7 : Addr} {fd7 : FuncData} (F_l_due : Fun K "_law_due" "_law_due" s_l_due f7 fd7) (b_l_due : Binds K fd7 ["_law_items", "_law_is_hand"] []) (g_l_due : mg "_law_due" = some (.ref f7)) (G_l_due : FnOk P w K mg base CX0 8 f7 fd7 ["_law_items", "_law_is_hand"] (spDue K)) : FnOk P w K mg base CX0 12 f fd ["_law_script"] (spLaw K) := by
  refine F.ok sc_law (fun vs H Q E h => ?_) (fun cdv A outer s H vs Q E hr h => ?_)
  · obtain ⟨a, ns, rfl, _⟩ := h
    rfl
  · obtain ⟨a, ns, rfl, hS, hlen, q⟩ := h
    refine ⟨_, (pss_cons (ps_for PassesOwn.never rfl (pi_enum (by rfl) T.m_enumerate (pa_cons (pe_op op_cat (pe_slice sl_list (pv 0) po_none (po_some pe_int)) (pe_op op_rep (pe_lst (pa_cons pe_int pa_nil)) (pe_callTy call_int1 (by rfl) T.m_int (by decide +kernel) (pa_cons (pe_cmpR (op_eqD hr.units) (pv 0) (pe_lst pa_nil) (nomark _)) pa_nil)))) pa_nil)) (pg_tup rfl (pgs_cons (pg_name (i := 1) sc_law.nd rfl (.inl rfl)) (pgs_cons (pg_name (i := 2) sc_law.nd rfl (.inl rfl)) pgs_nil))) 
          (pss_cons (ps_set (i := 3) sc_law.nd rfl (.inl rfl) (pe_call G_l_pool (hr.mono (by decide)) (by rfl) g_l_pool F_l_pool.kp b_l_pool .nil pass0 (pa_cons (pv 2) (pa_cons (pe_op op_add pe_int (pv 1)) (pa_cons pe_int pa_nil))))) 
          (pss_one (ps_for PassesOwn.never rfl (pi_range1 rfl T.m_range (pa_cons pe_int pa_nil)) (pg_name (i := 4) sc_law.nd rfl (.inl rfl)) 
            (pss_cons (ps_set (i := 5) sc_law.nd rfl (.inl rfl) (pe_cmpR op_gt (pe_call G_l_draw (hr.mono (by decide)) (by rfl) g_l_draw F_l_draw.kp b_l_draw .nil pass0 (pa_cons (pv 3) (pa_cons pe_int pa_nil))) pe_int (nomark _))) 
            (pss_cons (ps_set (i := 6) sc_law.nd rfl (.inl rfl) (pe_lst (pa_cons (pe_lst (pa_cons pe_str pa_nil)) (pa_cons (pe_lst (pa_cons pe_str pa_nil)) pa_nil)))) 
            (C8.pss_cut (ps_set (i := 7) sc_law.nd rfl (.inl rfl) (pe_ifExp (pt_val (pv 5)) (pe_call G_l_hand (hr.mono (by decide)) (by rfl) g_l_hand F_l_hand.kp b_l_hand .nil pass0 (pa_cons (pv 3) (pa_cons (pv 6) pa_nil))) (pe_call G_l_work (hr.mono (by decide)) (by rfl) g_l_work F_l_work.kp b_l_work .nil pass0 (pa_cons (pv 3) (pa_cons (pv 6) pa_nil))))) 
            (pss_cons (ps_for PassesOwn.never rfl (pi_range1 rfl T.m_range (pa_cons (pe_call G_l_draw (hr.mono (by decide)) (by rfl) g_l_draw F_l_draw.kp b_l_draw .nil pass0 (pa_cons (pv 3) (pa_cons pe_int pa_nil))) pa_nil)) (pg_name (i := 8) sc_law.nd rfl (.inl rfl)) 
              (pss_one (ps_set (i := 7) sc_law.nd rfl (.inl rfl) (pe_call G_l_bent (hr.mono (by decide)) (by rfl) g_l_bent F_l_bent.kp b_l_bent .nil pass0 (pa_cons (pv 3) (pa_cons (pv 7) pa_nil)))))) 
            (pss_cons (ps_if (pt_cmpR (op_neD hr.units) (pe_call G_l_heard hr (by rfl) g_l_heard F_l_heard.kp b_l_heard .nil pass0 (pa_cons (pv 7) (pa_cons (pv 5) pa_nil))) (pe_call G_l_due (hr.mono (by decide)) (by rfl) g_l_due F_l_due.kp b_l_due .nil pass0 (pa_cons (pv 7) (pa_cons (pv 5) pa_nil))) (nomark _)) 
              (pss_one (ps_ret pe_bl)) pss_nil) 
            (pss_one (ps_if (pt_cmpR (op_neD hr.units) (pe_call G_l_heard hr (by rfl) g_l_heard F_l_heard.kp b_l_heard .nil pass0 (pa_cons (pe_callTy call_list_of (by rfl) T.m_list (by decide +kernel) (pa_cons (pv 7) pa_nil)) (pa_cons (pv 5) pa_nil))) (pe_call G_l_due (hr.mono (by decide)) (by rfl) g_l_due F_l_due.kp b_l_due .nil pass0 (pa_cons (pv 7) (pa_cons (pv 5) pa_nil))) (nomark _)) 
              (pss_one (ps_ret pe_bl)) pss_nil))))))))))) 
        (pss_cons (ps_for PassesOwn.never rfl (pi_list (pe_lst (pa_cons pe_non (pa_cons pe_int (pa_cons pe_str (pa_cons pe_dnewK (pa_cons pe_bl pa_nil))))))) (pg_name (i := 9) sc_law.nd rfl (.inl rfl)) 
          (pss_one (ps_if (PW.pt (pw_or (pt_cmpR (op_neD hr.units) (pe_call G_l_heard hr (by rfl) g_l_heard F_l_heard.kp b_l_heard .nil pass0 (pa_cons (pv 9) (pa_cons pe_bl pa_nil))) (pe_lst (pa_cons pe_non pa_nil)) (nomark _)) (pw_or1 (pt_cmpR (op_neD hr.units) (pe_call G_l_heard hr (by rfl) g_l_heard F_l_heard.kp b_l_heard .nil pass0 (pa_cons (pv 9) (pa_cons pe_bl pa_nil))) (pe_lst (pa_cons pe_non pa_nil)) (nomark _))))) 
            (pss_one (ps_ret pe_bl)) pss_nil))) 
        (pss_one (ps_ret pe_bl)))), ?_⟩
    refine ⟨_, rfl, _, rfl, a, _, rfl, hS, fun t24 n24 => ?_⟩
    have s0 := same_upd (o := .lst (cutV (ns.map V.int) none (some (6 : Int)))) n24
    have ec : (upd H t24 (.lst (cutV (ns.map V.int) none (some (6 : Int))))) t24 = some (.lst (cutV (ns.map V.int) none (some (6 : Int)))) := upd_same
    generalize upd H t24 (.lst (cutV (ns.map V.int) none (some (6 : Int)))) = H25 at s0 ec ⊢
    refine ⟨(by show 1 ≤ sizeLine; decide), fun t25 n25 => ?_⟩
    have sa := same_upd (o := .lst [V.int 7]) n25
    replace s0 := s0.trans sa
    replace ec := sa _ _ ec
    have el : (upd H25 t25 (.lst [V.int 7])) t25 = some (.lst [V.int 7]) := upd_same
    clear sa
    generalize upd H25 t25 (.lst [V.int 7]) = H26 at s0 ec el ⊢
    refine ⟨_, rfl, Nat.zero_le _, fun t26 n26 => ?_⟩
    have sa := same_upd (o := .lst []) n26
    replace s0 := s0.trans sa
    replace ec := sa _ _ ec
    replace el := sa _ _ el
    have ee : (upd H26 t26 (.lst [])) t26 = some (.lst []) := upd_same
    clear sa
    generalize upd H26 t26 (.lst []) = H27 at s0 ec el ee ⊢
    refine ⟨_, _, .lst (s0.seq hS) (dp_ints ns), .lst (xs := []) (.inl (.inl ee)) .nil, ints_lay ns, rfl, .inr ⟨_, rfl, t25, _, [V.int 7], rfl, rfl, el, ?z1, ?z2, ?z3, fun t27 n27 => ?_⟩⟩
    case z1 => split <;> decide
    case z2 => split <;> decide
    case z3 => split <;> decide
    have sa := same_upd (o := .lst (List.replicate (if PyData.eqv (.list (ns.map PyData.int)) (.list []) = true then (1 : Int) else 0).toNat [V.int 7]).flatten) n27
    replace s0 := s0.trans sa
    replace ec := sa _ _ ec
    have er : (upd H27 t27 (.lst (List.replicate (if PyData.eqv (.list (ns.map PyData.int)) (.list []) = true then (1 : Int) else 0).toNat [V.int 7]).flatten)) t27 = some (.lst (List.replicate (if PyData.eqv (.list (ns.map PyData.int)) (.list []) = true then (1 : Int) else 0).toNat [V.int 7]).flatten) := upd_same
    clear sa
    generalize upd H27 t27 (.lst (List.replicate (if PyData.eqv (.list (ns.map PyData.int)) (.list []) = true then (1 : Int) else 0).toNat [V.int 7]).flatten) = H28 at s0 ec er ⊢
    have hrl : (List.replicate (if PyData.eqv (.list (ns.map PyData.int)) (.list []) = true then (1 : Int) else 0).toNat [V.int 7]).flatten.length ≤ 1 := by
      split <;> decide
    have hcl : (cutV (ns.map V.int) none (some (6 : Int))).length ≤ ns.length := by
      have h := List.length_map (f := V.int) (as := ns)
      unfold cutV
      rw [List.length_take, List.length_drop]
      omega
    refine ⟨t24, t27, _, _, rfl, rfl, ec, er, ?z4, fun t28 n28 => ?_⟩
    case z4 =>
      exact Nat.le_of_lt (small1000 (by omega))
    obtain ⟨cells, hcells⟩ : ∃ cells : List V, cells = cutV (ns.map V.int) none (some (6 : Int)) ++ (List.replicate (if PyData.eqv (.list (ns.map PyData.int)) (.list []) = true then (1 : Int) else 0).toNat [V.int 7]).flatten := ⟨_, rfl⟩
    have hxs : ∀ x ∈ cells, ∃ c, x = V.int c := by
      intro x hx
      rw [hcells, List.mem_append] at hx
      rcases hx with hx | hx
      · obtain ⟨i, hi⟩ := List.getElem?_of_mem hx
        obtain ⟨c, _, e⟩ := List.mem_map.mp (cut_mem hi)
        exact ⟨c, e.symm⟩
      · obtain ⟨l, h1, h2⟩ := List.mem_flatten.mp hx
        rw [(List.mem_replicate.mp h1).2, List.mem_singleton] at h2
        exact ⟨7, h2⟩
    have hxl : cells.length ≤ 100 := by
      rw [hcells, List.length_append]
      omega
    rw [← hcells]
    replace s0 := s0.trans (same_upd (o := .lst cells) n28)
    have ep : (upd H28 t28 (.lst cells)) t28 = some (.lst cells) := upd_same
    generalize upd H28 t28 (.lst cells) = HC at s0 ep ⊢
    clear ec er hrl hcells
    refine ⟨t28, cells, rfl, .inl (.inl ep), ?_⟩
    have self_eq : ∀ r, PyData.eqv (.list (rsD r)) (.list (rsD r)) = true := fun r => SeqAt.eqv_refl _ (SeqAt.canLay_of_shaped (rs_sh r))
    have lD : ∀ (H' : Hp) (l : Addr) (r : Option (Option Nat)), H' l = some (.lst (rsV r)) → Dp K H' (.ref l) (.list (rsD r)) := fun H' l r e => .lst (.inl (.inl e)) (dp_rs r)
    refine for_it walk_enum (fun i σ H' => Same HC H' ∧ ∃ y1 y2 y3 y4 y5 y6 y7 y8 y9 : Option V, σ = [some (.ref a), y1, y2, y3, y4, y5, y6, y7, y8, y9]) ⟨Same.refl _, _, _, _, _, _, _, _, _, _, rfl⟩ (fun i σ H' _ h => .inl (.inl (h.1 _ _ ep))) ?_ ?_
    · rintro i x σ Ha Hb hi ⟨s6, y1, y2, y3, y4, y5, y6, y7, y8, y9, rfl⟩ ⟨t, kk, x, rfl, ht, rfl, hk, hx⟩
      obtain ⟨c, rfl⟩ := hxs x (List.mem_of_getElem? hx)
      have ek : kk = .int (i : Nat) := (Option.some.inj hk).symm
      subst ek
      have hi100 : i < 100 := by omega
      have s7 := s6.trans (same_upd (o := .tup [.int (i : Nat), .int c]) ht)
      refine ⟨t, _, rfl, .inl (.inl upd_same), rfl, _, _, rfl, _, [], rfl, rfl, ?_⟩
      generalize upd Ha t (.tup [.int (i : Nat), .int c]) = Hc at s7 ⊢
      refine ⟨_, rfl, _, rfl, _, _, rfl, rfl, c, _, _, rfl, ⟨by omega, by omega⟩, ⟨by decide, by decide⟩, fun R H3 p sR k sH => ?_⟩
      refine ⟨6, rfl, by decide, by decide, for_range (lo := 0) (fun j σ H' => ∃ R1, Go p R H3 R1 H' ∧ ∃ y4 y5 y6 y7 y8 y9 : Option V, σ = [some (.ref a), some (.int (i : Nat)), some (.int c), some (.ref p), y4, y5, y6, y7, y8, y9]) ⟨R, k.go, _, _, _, _, _, _, rfl⟩ ?_ ?_⟩
      · rintro j σ H4 hj ⟨R1, g, y4, y5, y6, y7, y8, y9, rfl⟩
        refine ⟨_, rfl, p, 3, R1, rfl, by decide, g.rest, fun r1 H5 r10 r11 gi => ⟨_, _, rfl, rfl, ?_⟩⟩
        replace g := g.trans gi
        obtain ⟨hand, eh⟩ : ∃ hand : Bool, hand = decide ((0 : Int) < r1) := ⟨_, rfl⟩
        refine ⟨(by show 1 ≤ sizeLine; decide), fun n0 hn0 => ?_⟩
        have gi := go_new2 (.lst [V.str "w"]) g.rest hn0
        have e0 := upd_same (H := R1) (a := n0) (o := .lst [V.str "w"])
        replace g := g.trans gi
        refine ⟨(by show 1 ≤ sizeLine; decide), fun n1 hn1 => ?_⟩
        have gi := go_new2 (.lst [V.str "gone"]) g.rest hn1
        have e0 := gi.same _ _ e0
        have e1 := upd_same (H := upd R1 n0 (.lst [V.str "w"])) (a := n1) (o := .lst [V.str "gone"])
        replace g := g.trans gi
        refine ⟨(by show 2 ≤ sizeLine; decide), fun nm hnm => ?_⟩
        have gi := go_new2 (.lst [V.ref n0, V.ref n1]) g.rest hnm
        have e0 := gi.same _ _ e0
        have e1 := gi.same _ _ e1
        have em := upd_same (H := upd (upd R1 n0 (.lst [V.str "w"])) n1 (.lst [V.str "gone"])) (a := nm) (o := .lst [V.ref n0, V.ref n1])
        replace g := g.trans gi
        generalize upd (upd (upd R1 n0 (.lst [V.str "w"])) n1 (.lst [V.str "gone"])) nm (.lst [V.ref n0, V.ref n1]) = R2 at g e0 e1 em
        have g2 := g
        refine ⟨(fun σ' H' => ∃ (R3 : Hp) (x : V) (ds : List PyData), Go p R H3 R3 H' ∧ Dp K R3 x (.tuple ds) ∧ (∀ d ∈ ds, ItB d) ∧ ds.length ≤ 14 ∧ ∃ y8 y9 y10 : Option V, σ' = [some (.ref a), some (.int (i : Nat)), some (.int c), some (.ref p), y8, some (.bl hand), some (.ref nm), some x, y9, y10]), ?_, ?_⟩
        · refine ⟨_, rfl, _, rfl, ite2 (fun _ => ?_) (fun _ => ?_)⟩
          · exact ⟨_, rfl, _, rfl, p, nm, n0, n1, R2, ["w"], ["gone"], rfl, g.rest, ⟨em, e0, e1⟩, ⟨by decide, by decide, by decide, fun n hn => (names_b.1 n hn).1⟩, fun x R3 H6 ds gi hd hok => ⟨R3, x, ds, g.trans gi, hd, (hand_b hok).1, (hand_b hok).2, some (.int (0 + (j : Int))), y8, y9, by rw [eh]; rfl⟩⟩
          · exact ⟨_, rfl, _, rfl, p, nm, n0, n1, R2, ["w"], ["gone"], rfl, g.rest, ⟨em, e0, e1⟩, ⟨by decide, by decide, by decide, names_b.1, names_b.2⟩, fun x R3 H6 ds gi hd hok => ⟨R3, x, ds, g.trans gi, hd, (work_b hok).1, (work_b hok).2, some (.int (0 + (j : Int))), y8, y9, by rw [eh]; rfl⟩⟩
        clear eh
        rintro σ1 H6 ⟨R3, x, ds, g, hd, hb, hl, z8, z9, z10, rfl⟩
        refine ⟨_, rfl, p, 3, R3, rfl, by decide, g.rest, fun r2 H7 r20 r21 gi => ⟨_, rfl, by omega, by omega, for_range (lo := 0) (fun j σ H' => ∃ (R4 : Hp) (x : V) (ds : List PyData), Go p R H3 R4 H' ∧ Dp K R4 x (.tuple ds) ∧ (∀ d ∈ ds, ItB d) ∧ ds.length ≤ 14 + 8 * j ∧ ∃ y8 y9 y10 : Option V, σ = [some (.ref a), some (.int (i : Nat)), some (.int c), some (.ref p), y8, some (.bl hand), some (.ref nm), some x, y9, y10]) ⟨R3, x, ds, g.trans gi, dp_same gi.same _ _ hd, hb, hl, _, _, _, rfl⟩ ?_ ?_⟩⟩
        · rintro j2 σ H8 hj2 ⟨R4, x, ds, g, hd, hb, hl, z8, z9, z10, rfl⟩
          exact ⟨_, rfl, _, rfl, p, R4, x, ds, rfl, g.rest, hd, hb, by omega, fun x' R5 H9 ds' gi hd' hb' hl' => ⟨R5, x', ds', g.trans gi, hd', hb', by omega, _, _, _, rfl⟩⟩
        · rintro σ H8 ⟨R4, x, ds, g, hd, hb, hl, z8, z9, z10, rfl⟩
          have hl30 : ds.length ≤ 40 := by omega
          have hgd := row_good hb (by omega)
          have hnl := numB_b hb
          have hv : ∀ H', Same R4 H' → Val K H' x (.tuple ds) := fun H' s' => .inl ⟨dp_same s' _ _ hd, hgd⟩
          have hr4 := g.rest.1
          have hhe : heardV hand (.tuple ds) = rsV (progF hand ds) := heard_some rfl
          refine ⟨_, rfl, _, rfl, x, .tuple ds, hand, rfl, hv _ hr4, fun H9 l1 s1 n1 e1 => ⟨_, rfl, _, rfl, x, ds, hand, rfl, hv _ (hr4.trans s1), by omega, fun H10 l2 s2 n2 e2 => ?_⟩⟩
          rw [hhe] at e1
          refine ⟨.list (rsD (progF hand ds)), .list (rsD (progF hand ds)), lD _ _ _ (s2 _ _ e1), lD _ _ _ e2, rs_sh _, rs_sh _, _, rfl, iteB (c := false) (by rw [self_eq]; rfl) (iteF ?_)⟩
          have s3 := hr4.trans (s1.trans s2)
          obtain ⟨b1, xs, rfl, hxs1, hxa⟩ : ∃ (b : Addr) (xs : List V), x = .ref b ∧ SqT K R4 b xs ∧ DpAll K R4 xs ds := by
            cases hd with
            | tup h1 h2 => exact ⟨_, _, rfl, h1, h2⟩
          refine ⟨_, rfl, b1, xs, rfl, .inr (Same.seqT s3 hxs1), fun l3 hl3 => ?_⟩
          have s4 := s3.trans (same_upd (o := .lst xs) hl3)
          have hvl : Val K (upd H10 l3 (.lst xs)) (.ref l3) (.list ds) := .inl ⟨.lst (.inl (.inl upd_same)) (dpAll_same s4 _ _ hxa), hgd⟩
          have hhe2 : heardV hand (.list ds) = rsV (progF hand ds) := heard_some rfl
          refine ⟨_, rfl, .ref l3, .list ds, hand, rfl, hvl, fun H11 l4 s5 n4 e4 => ⟨_, rfl, _, rfl, .ref b1, ds, hand, rfl, hv _ (s4.trans s5), by omega, fun H12 l5 s6' n5 e5 => ?_⟩⟩
          rw [hhe2] at e4
          refine ⟨.list (rsD (progF hand ds)), .list (rsD (progF hand ds)), lD _ _ _ (s6' _ _ e4), lD _ _ _ e5, rs_sh _, rs_sh _, _, rfl, iteB (c := false) (by rw [self_eq]; rfl) (iteF ?_)⟩
          refine ⟨R4, g.trans (Go.same_heap g.rest ?_), _, _, _, _, _, _, rfl⟩
          exact (s1.trans s2).trans ((same_upd hl3).trans (s5.trans s6'))
      · rintro σ H4 ⟨R1, g, y4, y5, y6, y7, y8, y9, rfl⟩
        exact ⟨s7.trans (sR.trans (g.same.trans g.rest.1)), _, _, _, _, _, _, _, _, _, rfl⟩
    · rintro σ Ha ⟨s6, y1, y2, y3, y4, y5, y6, y7, y8, y9, rfl⟩
      refine fun de hde => ⟨(by show 5 ≤ sizeLine; decide), fun l13 hl13 => ?_⟩
      have s14 := same_upd (o := .lst [V.non, .int 5, .str "look", .ref de, .bl true]) hl13
      have ede := s14 _ _ (upd_same (H := Ha) (a := de) (o := .dK []))
      have e14 := upd_same (H := upd Ha de (.dK [])) (a := l13) (o := .lst [V.non, .int 5, .str "look", .ref de, .bl true])
      refine ⟨l13, rfl, ⟨_, .inl (.inl e14)⟩, ?_⟩
      generalize upd (upd Ha de (.dK [])) l13 (.lst [V.non, .int 5, .str "look", .ref de, .bl true]) = HG at ede e14 ⊢
      refine for_it (walk_list (xs := [V.non, .int 5, .str "look", .ref de, .bl true])) (fun j σ H' => Same HG H' ∧ ∃ y1 y2 y3 y4 y5 y6 y7 y8 y9 : Option V, σ = [some (.ref a), y1, y2, y3, y4, y5, y6, y7, y8, y9]) ⟨Same.refl _, _, _, _, _, _, _, _, _, _, rfl⟩ (fun j σ H' _ h => .inl (.inl (h.1 _ _ e14))) ?_ ?_
      · rintro j v σ _ H6 hj ⟨s6', y1, y2, y3, y4, y5, y6, y7, y8, y9, rfl⟩ ⟨rfl, hx⟩
        obtain ⟨d, hd, hrow⟩ : ∃ d, Val K HG v d ∧ rowOf d = none := by
          have hm := List.mem_of_getElem? hx
          simp only [List.mem_cons, List.not_mem_nil, or_false] at hm
          rcases hm with rfl | rfl | rfl | rfl | rfl
          · exact ⟨.none, .inl ⟨.non, by decide +kernel, by decide +kernel⟩, rfl⟩
          · exact ⟨.int 5, .inl ⟨.int 5, by decide +kernel, by decide +kernel⟩, rfl⟩
          · exact ⟨.str "look", .inl ⟨.str _, by decide +kernel, by decide +kernel⟩, rfl⟩
          · exact ⟨.dict [], .inr ⟨rfl, de, [], rfl, ede⟩, rfl⟩
          · exact ⟨.bool true, .inl ⟨.bl true, by decide +kernel, by decide +kernel⟩, rfl⟩
        have hno : ∀ b, heardV b d = rsV (some none) := fun b => heard_none hrow
        refine ⟨_, rfl, v, d, true, rfl, hd.same s6', fun H7 l1 s1 n1 e1 => ⟨(by show 1 ≤ sizeLine; decide), fun l2 hl2 => ?_⟩⟩
        rw [hno] at e1
        refine ⟨.list (rsD (some none)), .list (rsD (some none)), lD _ _ _ ((same_upd hl2) _ _ e1), lD _ _ (some none) upd_same, rs_sh _, rs_sh _, _, rfl, iteB (c := false) (by rw [self_eq]; rfl) (iteF ?_)⟩
        have s2 := s6'.trans (s1.trans (same_upd (o := .lst [V.non]) hl2))
        generalize upd H7 l2 (.lst [V.non]) = H8 at s2
        refine ⟨_, rfl, v, d, false, rfl, hd.same s2, fun H9 l3 s3 n3 e3 => ⟨(by show 1 ≤ sizeLine; decide), fun l4 hl4 => ?_⟩⟩
        rw [hno] at e3
        refine ⟨.list (rsD (some none)), .list (rsD (some none)), lD _ _ _ ((same_upd hl4) _ _ e3), lD _ _ (some none) upd_same, rs_sh _, rs_sh _, _, rfl, iteB (c := false) (by rw [self_eq]; rfl) (iteF ?_)⟩
        exact ⟨s2.trans (s3.trans (same_upd hl4)), _, _, _, _, _, _, _, _, _, rfl⟩
      · rintro σ H6 ⟨s6', y1, y2, y3, y4, y5, y6, y7, y8, y9, rfl⟩
        exact q _
end
end K05

namespace K05
open PySem PySem.Spec PyProof.Rows StX L2 TL GG OO LY
theorem tup_ofV {K : PySem.W.Frag} {a : Addr} {od : Option Addr} {its : Array Value} {n : Nat} {sl : Array (Option Value)} {xs : List V} (h : K.lookup a = some ⟨.type "tuple", od, .seq its n, sl⟩) (hv : its.toList.map absV = xs.map some) (hl : xs.length ≤ 1000) : ∀ H, SqT K H a xs := fun H => by
  have r := vals_abs its.toList _ hv
  refine .inr ⟨_, its, n, h, rfl, rfl, ?_, r⟩
  have e := r.length
  simp only [Array.length_toList] at e
  exact Nat.le_of_lt (small1000 (by rw [← e]; exact hl))
def kCh : List Str := ["hold", "try", "let", "enter", "leave", "lock", "unlock"]
theorem ns_of {P : Params} {z : Str} : ∀ (l : List DictEntry) (ks : List Str), l.map He.keyOf = He.keysIn P ks → (match l.find? (·.key.isStr z) with
      | some e => some (some e.val)
      | none => if l.any (·.refKey) then none else some none) = some (((ks.zip (l.map (·.val))).find? fun p => p.1 == z).map (·.2)) ∧ l.any (·.refKey) = false
  | [], [], _ => ⟨rfl, rfl⟩
  | [], _ :: _, h => by cases h
  | _ :: _, [], h => by cases h
  | e :: r, k :: ks, h => by
    have h1 : He.keyOf e :: r.map He.keyOf = some (k, PyData.keyHash P k) :: He.keysIn P ks := h
    injection h1 with h2 h3
    obtain ⟨i1, i2⟩ := ns_of (z := z) r ks h3
    obtain ⟨eh, ek, ev⟩ := e
    unfold He.keyOf at h2
    cases ek with
    | str x t =>
      have hx : x = k := (Prod.mk.inj (Option.some.inj h2)).1
      subst hx
      refine ⟨?_, by rw [List.any_cons, i2]; rfl⟩
      by_cases hz : (x == z) = true
      · rw [List.find?_cons_of_pos (p := fun e : DictEntry => e.key.isStr z) (show ((⟨eh, .str x t, ev⟩ : DictEntry).key.isStr z) = true from hz), List.map_cons, List.zip_cons_cons, List.find?_cons_of_pos (p := fun q : Str × Value => q.1 == z) hz]
        rfl
      · rw [List.find?_cons_of_neg (p := fun e : DictEntry => e.key.isStr z) (show ¬ ((⟨eh, .str x t, ev⟩ : DictEntry).key.isStr z) = true from hz), List.map_cons, List.zip_cons_cons, List.find?_cons_of_neg (p := fun q : Str × Value => q.1 == z) hz, List.any_cons]
        exact i1
    | _ => cases h2
theorem find_if {z : Str} (k : Str) (v : Value) (r : List (Str × Value)) : (((k, v) :: r).find? fun p => p.1 == z).map (·.2) = if z = k then some v else (r.find? fun p => p.1 == z).map (·.2) := by
  by_cases h : z = k
  · subst h
    rw [if_pos rfl, List.find?_cons_of_pos (by simp)]
    rfl
  · rw [if_neg h, List.find?_cons_of_neg (by simp; exact fun q => h q.symm)]
theorem chg_of {K : PySem.W.Frag} {w : World} {dC h0 h1 h2 h3 h4 h5 h6 : Addr} {es : Array DictEntry} {n : Nat} (at_ : K.lookup dC = some ⟨.type "dict", none, .dict es n, #[]⟩) (hk : es.toList.map He.keyOf = He.keysIn w.params kCh) (hv : es.toList.map (·.val) = [Value.ref h0, Value.ref h1, Value.ref h2, Value.ref h3, Value.ref h4, Value.ref h5, Value.ref h6]) (lo : (dC == sysModules) = false)
    (t0 : ∀ H, SqT K H h0 [V.int (Int.ofNat 0), V.bl true])
    (t1 : ∀ H, SqT K H h1 [V.int (Int.ofNat 0), V.bl true])
    (t2 : ∀ H, SqT K H h2 [V.int (Int.ofNat 0), V.bl false])
    (t3 : ∀ H, SqT K H h3 [V.int (Int.ofNat 1), V.bl true])
    (t4 : ∀ H, SqT K H h4 [V.int (Int.ofNat 1), V.bl false])
    (t5 : ∀ H, SqT K H h5 [V.int (Int.ofNat 2), V.bl true])
    (t6 : ∀ H, SqT K H h6 [V.int (Int.ofNat 2), V.bl false]) : Chg K w dC := by
  have hz : ∀ z, PySem.W.nsIn K dC z = some (if z = "hold" then some (Value.ref h0) else if z = "try" then some (Value.ref h1) else if z = "let" then some (Value.ref h2) else if z = "enter" then some (Value.ref h3) else if z = "leave" then some (Value.ref h4) else if z = "lock" then some (Value.ref h5) else if z = "unlock" then some (Value.ref h6) else none) := fun z => by
    unfold PySem.W.nsIn
    rw [at_]
    refine (ns_of (z := z) es.toList kCh hk).1.trans ?_
    rw [hv]
    show some ((List.find? (fun p => p.1 == z) ([("hold", Value.ref h0), ("try", Value.ref h1), ("let", Value.ref h2), ("enter", Value.ref h3), ("leave", Value.ref h4), ("lock", Value.ref h5), ("unlock", Value.ref h6)] : List (Str × Value))).map (·.2)) = _
    rw [find_if, find_if, find_if, find_if, find_if, find_if, find_if]
    rfl
  refine ⟨⟨es, n, at_, He.keysLit_of hk, lo⟩, fun z h => ?_, fun z i b h => ?_⟩
  · rw [hz z]
    unfold chD at h
    by_cases n0 : z = "hold"
    · rw [if_pos n0] at h
      cases h
    by_cases n1 : z = "try"
    · rw [if_neg n0, if_pos n1] at h
      cases h
    by_cases n2 : z = "let"
    · rw [if_neg n0, if_neg n1, if_pos n2] at h
      cases h
    by_cases n3 : z = "enter"
    · rw [if_neg n0, if_neg n1, if_neg n2, if_pos n3] at h
      cases h
    by_cases n4 : z = "leave"
    · rw [if_neg n0, if_neg n1, if_neg n2, if_neg n3, if_pos n4] at h
      cases h
    by_cases n5 : z = "lock"
    · rw [if_neg n0, if_neg n1, if_neg n2, if_neg n3, if_neg n4, if_pos n5] at h
      cases h
    by_cases n6 : z = "unlock"
    · rw [if_neg n0, if_neg n1, if_neg n2, if_neg n3, if_neg n4, if_neg n5, if_pos n6] at h
      cases h
    rw [if_neg n0, if_neg n1, if_neg n2, if_neg n3, if_neg n4, if_neg n5, if_neg n6]
  · rw [hz z]
    unfold chD at h
    by_cases n0 : z = "hold"
    · rw [if_pos n0] at h ⊢
      cases h
      exact ⟨h0, rfl, t0⟩
    by_cases n1 : z = "try"
    · rw [if_neg n0, if_pos n1] at h ⊢
      cases h
      exact ⟨h1, rfl, t1⟩
    by_cases n2 : z = "let"
    · rw [if_neg n0, if_neg n1, if_pos n2] at h ⊢
      cases h
      exact ⟨h2, rfl, t2⟩
    by_cases n3 : z = "enter"
    · rw [if_neg n0, if_neg n1, if_neg n2, if_pos n3] at h ⊢
      cases h
      exact ⟨h3, rfl, t3⟩
    by_cases n4 : z = "leave"
    · rw [if_neg n0, if_neg n1, if_neg n2, if_neg n3, if_pos n4] at h ⊢
      cases h
      exact ⟨h4, rfl, t4⟩
    by_cases n5 : z = "lock"
    · rw [if_neg n0, if_neg n1, if_neg n2, if_neg n3, if_neg n4, if_pos n5] at h ⊢
      cases h
      exact ⟨h5, rfl, t5⟩
    by_cases n6 : z = "unlock"
    · rw [if_neg n0, if_neg n1, if_neg n2, if_neg n3, if_neg n4, if_neg n5, if_pos n6] at h ⊢
      cases h
      exact ⟨h6, rfl, t6⟩
    rw [if_neg n0, if_neg n1, if_neg n2, if_neg n3, if_neg n4, if_neg n5, if_neg n6] at h
    cases h
end K05

namespace K05
open PySem PySem.Spec PyProof.Rows StX L2 TL GG OO LY
theorem all_mk {l : PySem.W.OpenLaw} {w : World} {K : PySem.W.Frag} {h : Heap} {mg : Str → Option Value} {fa : Addr} {pe t0 t1 t2 t3 t7 t8 tF tO o0 o1 o2 o3 o4 o5 dC h0 h1 h2 h3 h4 h5 h6 S MS CL CH sCHof pCHparts CW sCWof pCWparts f1 f2 f3 f4 f5 f6 f7 f8 f9 f10 f11 f12 f13 f14 f15 f16 f17 f18 f19 f20 f21 f22 f23 f24 f25 f26 f27 f28 f29 f30 f31 f32 f33 f34 f35 f36 f37 f38 f39 f40 f41 f42 f43 f44 f45 f46 f47 : Addr} {lt0 lt1 lt2 lt4 : Tok} {tot0 tot1 tot2 tot3 tot7 tot8 totF totO too0 too1 too2 too3 too4 too5 toh0 toh1 toh2 toh3 toh4 toh5 toh6 ddS od1 an1 od2 an2 od3 an3 od4 an4 od5 an5 od6 an6 od7 an7 od8 an8 od9 an9 od10 an10 od11 an11 od12 an12 od13 an13 od14 an14 od15 an15 od16 an16 od17 an17 od18 an18 od19 an19 od20 an20 od21 an21 od22 an22 od23 an23 od24 an24 od25 an25 od26 an26 od27 an27 od28 an28 od29 an29 od30 an30 od31 an31 od32 an32 od33 an33 od34 an34 od35 an35 od36 an36 od37 an37 od38 an38 od39 an39 od40 an40 od41 an41 od42 an42 od43 an43 od44 an44 od45 an45 od46 an46 od47 an47 : Option Addr} {tit0 tit1 tit2 tit3 tit7 tit8 titF titO tio0 tio1 tio2 tio3 tio4 tio5 tih0 tih1 tih2 tih3 tih4 tih5 tih6 : Array Value} {tnt0 tnt1 tnt2 tnt3 tnt7 tnt8 tntF tntO tno0 tno1 tno2 tno3 tno4 tno5 nC tnh0 tnh1 tnh2 tnh3 tnh4 tnh5 tnh6 : Nat} {tst0 tst1 tst2 tst3 tst7 tst8 tstF tstO tso0 tso1 tso2 tso3 tso4 tso5 tsh0 tsh1 tsh2 tsh3 tsh4 tsh5 tsh6 sl1 sl2 sl3 sl4 sl5 sl6 sl7 sl8 sl9 sl10 sl11 sl12 sl13 sl14 sl15 sl16 sl17 sl18 sl19 sl20 sl21 sl22 sl23 sl24 sl25 sl26 sl27 sl28 sl29 sl30 sl31 sl32 sl33 sl34 sl35 sl36 sl37 sl38 sl39 sl40 sl41 sl42 sl43 sl44 sl45 sl46 sl47 : Array (Option Value)} {esC : Array DictEntry} {nnS qS : Str} {bsS subS rsCHof rpCHparts rsCWof rpCWparts : List Value} {snS : List Str} {abS : Bool} {colS : Option Bool} {u0S u1S u2S u3S u5S : Option Value} {oc1 kV1 dc1 pm1 cd1 ct1 oc2 kV2 dc2 pm2 cd2 ct2 oc3 kV3 dc3 pm3 cd3 ct3 oc4 kV4 dc4 pm4 cd4 ct4 oc5 kV5 dc5 pm5 cd5 ct5 oc6 kV6 dc6 pm6 cd6 ct6 oc7 kV7 dc7 pm7 cd7 ct7 oc8 kV8 dc8 pm8 cd8 ct8 oc9 kV9 dc9 pm9 cd9 ct9 oc10 kV10 dc10 pm10 cd10 ct10 oc11 kV11 dc11 pm11 cd11 ct11 oc12 kV12 dc12 pm12 cd12 ct12 oc13 kV13 dc13 pm13 cd13 ct13 oc14 kV14 dc14 pm14 cd14 ct14 oc15 kV15 dc15 pm15 cd15 ct15 oc16 kV16 dc16 pm16 cd16 ct16 oc17 kV17 dc17 pm17 cd17 ct17 oc18 kV18 dc18 pm18 cd18 ct18 oc19 kV19 dc19 pm19 cd19 ct19 oc20 kV20 dc20 pm20 cd20 ct20 oc21 kV21 dc21 pm21 cd21 ct21 oc22 kV22 dc22 pm22 cd22 ct22 oc23 kV23 dc23 pm23 cd23 ct23 oc24 kV24 dc24 pm24 cd24 ct24 oc25 kV25 dc25 pm25 cd25 ct25 oc26 kV26 dc26 pm26 cd26 ct26 oc27 kV27 dc27 pm27 cd27 ct27 oc28 kV28 dc28 pm28 cd28 ct28 oc29 kV29 dc29 pm29 cd29 ct29 oc30 kV30 dc30 pm30 cd30 ct30 oc31 kV31 dc31 pm31 cd31 ct31 oc32 kV32 dc32 pm32 cd32 ct32 oc33 kV33 dc33 pm33 cd33 ct33 oc34 kV34 dc34 pm34 cd34 ct34 oc35 kV35 dc35 pm35 cd35 ct35 oc36 kV36 dc36 pm36 cd36 ct36 oc37 kV37 dc37 pm37 cd37 ct37 oc38 kV38 dc38 pm38 cd38 ct38 oc39 kV39 dc39 pm39 cd39 ct39 oc40 kV40 dc40 pm40 cd40 ct40 oc41 kV41 dc41 pm41 cd41 ct41 oc42 kV42 dc42 pm42 cd42 ct42 oc43 kV43 dc43 pm43 cd43 ct43 oc44 kV44 dc44 pm44 cd44 ct44 oc45 kV45 dc45 pm45 cd45 ct45 oc46 kV46 dc46 pm46 cd46 ct46 oc47 kV47 dc47 pm47 cd47 ct47 : Value} (X : K.In h) (G : h.Ns mainGlobals mg) (hfa : mg "law" = some (.ref fa))
    (y_lt0 : PySem.W.nsIn K mainGlobals "_LONGEST_NAME" = some (some (.int 8 lt0)))
    (y_lt1 : PySem.W.nsIn K mainGlobals "_MOST_IN_WAY_OUT" = some (some (.int 4 lt1)))
    (y_lt2 : PySem.W.nsIn K mainGlobals "_MOST_ITEMS" = some (some (.int 14 lt2)))
    (y_lt4 : PySem.W.nsIn K mainGlobals "_LONGEST_OPENING" = some (some (.int 4 lt4)))
    (z_max : PySem.W.nsIn K mainGlobals "max" = some none)
    (z_range : PySem.W.nsIn K mainGlobals "range" = some none)
    (z_len : PySem.W.nsIn K mainGlobals "len" = some none)
    (z_int : PySem.W.nsIn K mainGlobals "int" = some none)
    (z_bool : PySem.W.nsIn K mainGlobals "bool" = some none)
    (z_isinstance : PySem.W.nsIn K mainGlobals "isinstance" = some none)
    (z_str : PySem.W.nsIn K mainGlobals "str" = some none)
    (z_all : PySem.W.nsIn K mainGlobals "all" = some none)
    (z_any : PySem.W.nsIn K mainGlobals "any" = some none)
    (z_tuple : PySem.W.nsIn K mainGlobals "tuple" = some none)
    (z_list : PySem.W.nsIn K mainGlobals "list" = some none)
    (z_enumerate : PySem.W.nsIn K mainGlobals "enumerate" = some none)
    (z_repr : PySem.W.nsIn K mainGlobals "repr" = some none)
    (z_min : PySem.W.nsIn K mainGlobals "min" = some none)
    (z_dict : PySem.W.nsIn K mainGlobals "dict" = some none)
    (z_sorted : PySem.W.nsIn K mainGlobals "sorted" = some none)
    (y_t0 : PySem.W.nsIn K mainGlobals "_OPENERS" = some (some (.ref t0)))
    (x_t0 : K.lookup t0 = some ⟨.type "tuple", tot0, .seq tit0 tnt0, tst0⟩)
    (v_t0 : tit0.toList.map absV = (wOpen.map V.str).map some)
    (y_t1 : PySem.W.nsIn K mainGlobals "_BARE_ITEMS" = some (some (.ref t1)))
    (x_t1 : K.lookup t1 = some ⟨.type "tuple", tot1, .seq tit1 tnt1, tst1⟩)
    (v_t1 : tit1.toList.map absV = (wBare.map V.str).map some)
    (y_t2 : PySem.W.nsIn K mainGlobals "_NAMED_ITEMS" = some (some (.ref t2)))
    (x_t2 : K.lookup t2 = some ⟨.type "tuple", tot2, .seq tit2 tnt2, tst2⟩)
    (v_t2 : tit2.toList.map absV = (wNamed.map V.str).map some)
    (y_t3 : PySem.W.nsIn K mainGlobals "_ASKS" = some (some (.ref t3)))
    (x_t3 : K.lookup t3 = some ⟨.type "tuple", tot3, .seq tit3 tnt3, tst3⟩)
    (v_t3 : tit3.toList.map absV = (wAsk.map V.str).map some)
    (y_t7 : PySem.W.nsIn K mainGlobals "_NOT_BEHIND_OPENING" = some (some (.ref t7)))
    (x_t7 : K.lookup t7 = some ⟨.type "tuple", tot7, .seq tit7 tnt7, tst7⟩)
    (v_t7 : tit7.toList.map absV = (wNotB.map V.str).map some)
    (y_t8 : PySem.W.nsIn K mainGlobals "_NOT_IN_WORKS" = some (some (.ref t8)))
    (x_t8 : K.lookup t8 = some ⟨.type "tuple", tot8, .seq tit8 tnt8, tst8⟩)
    (v_t8 : tit8.toList.map absV = (wNotW.map V.str).map some)
    (y_tF : PySem.W.nsIn K mainGlobals "_AT_FIRST" = some (some (.ref tF)))
    (x_tF : K.lookup tF = some ⟨.type "tuple", totF, .seq titF tntF, tstF⟩)
    (v_tF : titF.toList.map absV = ([V.bl false, V.bl false, V.bl false]).map some)
    (y_tO : PySem.W.nsIn K mainGlobals "_OPENINGS" = some (some (.ref tO)))
    (x_tO : K.lookup tO = some ⟨.type "tuple", totO, .seq titO tntO, tstO⟩)
    (v_tO : titO.toList.map absV = ([V.ref o0, V.ref o1, V.ref o2, V.ref o3, V.ref o4, V.ref o5]).map some)
    (x_o0 : K.lookup o0 = some ⟨.type "tuple", too0, .seq tio0 tno0, tso0⟩)
    (v_o0 : tio0.toList.map absV = ((["look", "hold"] : List Str).map V.str).map some)
    (x_o1 : K.lookup o1 = some ⟨.type "tuple", too1, .seq tio1 tno1, tso1⟩)
    (v_o1 : tio1.toList.map absV = ((["look", "try"] : List Str).map V.str).map some)
    (x_o2 : K.lookup o2 = some ⟨.type "tuple", too2, .seq tio2 tno2, tso2⟩)
    (v_o2 : tio2.toList.map absV = ((["lock", "look", "hold", "unlock"] : List Str).map V.str).map some)
    (x_o3 : K.lookup o3 = some ⟨.type "tuple", too3, .seq tio3 tno3, tso3⟩)
    (v_o3 : tio3.toList.map absV = ((["lock", "look", "try", "unlock"] : List Str).map V.str).map some)
    (x_o4 : K.lookup o4 = some ⟨.type "tuple", too4, .seq tio4 tno4, tso4⟩)
    (v_o4 : tio4.toList.map absV = ((["lock", "look", "unlock", "hold"] : List Str).map V.str).map some)
    (x_o5 : K.lookup o5 = some ⟨.type "tuple", too5, .seq tio5 tno5, tso5⟩)
    (v_o5 : tio5.toList.map absV = ((["lock", "look", "unlock", "try"] : List Str).map V.str).map some)
    (y_dC : PySem.W.nsIn K mainGlobals "_CHANGES" = some (some (.ref dC)))
    (x_dC : K.lookup dC = some ⟨.type "dict", none, .dict esC nC, #[]⟩)
    (q_dC : esC.toList.map He.keyOf = He.keysIn w.params kCh)
    (u_dC : esC.toList.map (·.val) = [Value.ref h0, Value.ref h1, Value.ref h2, Value.ref h3, Value.ref h4, Value.ref h5, Value.ref h6])
    (lo_dC : (dC == sysModules) = false)
    (x_h0 : K.lookup h0 = some ⟨.type "tuple", toh0, .seq tih0 tnh0, tsh0⟩)
    (v_h0 : tih0.toList.map absV = ([V.int (Int.ofNat 0), V.bl true]).map some)
    (x_h1 : K.lookup h1 = some ⟨.type "tuple", toh1, .seq tih1 tnh1, tsh1⟩)
    (v_h1 : tih1.toList.map absV = ([V.int (Int.ofNat 0), V.bl true]).map some)
    (x_h2 : K.lookup h2 = some ⟨.type "tuple", toh2, .seq tih2 tnh2, tsh2⟩)
    (v_h2 : tih2.toList.map absV = ([V.int (Int.ofNat 0), V.bl false]).map some)
    (x_h3 : K.lookup h3 = some ⟨.type "tuple", toh3, .seq tih3 tnh3, tsh3⟩)
    (v_h3 : tih3.toList.map absV = ([V.int (Int.ofNat 1), V.bl true]).map some)
    (x_h4 : K.lookup h4 = some ⟨.type "tuple", toh4, .seq tih4 tnh4, tsh4⟩)
    (v_h4 : tih4.toList.map absV = ([V.int (Int.ofNat 1), V.bl false]).map some)
    (x_h5 : K.lookup h5 = some ⟨.type "tuple", toh5, .seq tih5 tnh5, tsh5⟩)
    (v_h5 : tih5.toList.map absV = ([V.int (Int.ofNat 2), V.bl true]).map some)
    (x_h6 : K.lookup h6 = some ⟨.type "tuple", toh6, .seq tih6 tnh6, tsh6⟩)
    (v_h6 : tih6.toList.map absV = ([V.int (Int.ofNat 2), V.bl false]).map some)
    (aS : PySem.W.nsIn K mainGlobals "InvalidItem" = some (some (.ref S)))
    (xS : K.lookup S = some (excClassObj nnS qS S MS bsS (.ref pe :: [.type "ValueError", .type "Exception", .type "BaseException", .type "object"]) true snS subS abS colS ddS u0S u1S u2S u3S u5S "ValueError.__new__"))
    (saS : PySem.W.findIn K (.ref S) "__setattr__" = some (some (.builtin "object.__setattr__")))
    (exS : PySem.W.subIn K (.ref S) (.type "BaseException") = some true)
    (tyS : PySem.W.typeIn K (.ref S) = some (.type "type"))
    (kpS : PySem.W.keepIn K (.ref S) = true)
    (noS : PySem.W.findIn K (.ref S) "number" = some none)
    (gaS : PySem.W.findIn K (.ref S) "__getattribute__" = some (some (.builtin "BaseException.__getattribute__")))
    (ggS : PySem.W.findIn K (.ref S) "__getattr__" = some none)
    (hdS : PySem.W.hasDictIn K S = true)
    (iiS : PySem.W.findIn K (.ref S) "__init__" = some (some (.ref f40)))
    (tiS : PySem.W.typeIn K (.ref f40) = some (.type "function"))
    (icS : PySem.W.isClsIn K S = true)
    (ssS : PySem.W.subIn K (.ref S) (.ref S) = some true)
    (aCL : PySem.W.nsIn K mainGlobals "Layout" = some (some (.ref CL)))
    (pgCL : PySem.W.plainGet K CL Str.empty = true)
    (hdCL : PySem.W.hasDictIn K CL = true)
    (poCL : PySem.W.plainOver K CL = true)
    (saCL : PySem.W.findIn K (.ref CL) "__setattr__" = some (some (.builtin "object.__setattr__")))
    (nCLplaced : PySem.W.findIn K (.ref CL) "placed" = some none)
    (nCLend : PySem.W.findIn K (.ref CL) "end" = some none)
    (nCLleads : PySem.W.findIn K (.ref CL) "leads" = some none)
    (nCLstandings : PySem.W.findIn K (.ref CL) "standings" = some none)
    (mkCL : PySem.W.makesIn K CL = true)
    (kpCL : PySem.W.keepIn K (.ref CL) = true)
    (aCH : PySem.W.nsIn K mainGlobals "HandRow" = some (some (.ref CH)))
    (pgCH : PySem.W.plainGet K CH Str.empty = true)
    (hdCH : PySem.W.hasDictIn K CH = true)
    (poCH : PySem.W.plainOver K CH = true)
    (saCH : PySem.W.findIn K (.ref CH) "__setattr__" = some (some (.builtin "object.__setattr__")))
    (nCH_parts : PySem.W.findIn K (.ref CH) "_parts" = some none)
    (nCHlayout : PySem.W.findIn K (.ref CH) "layout" = some none)
    (nCH_opening : PySem.W.findIn K (.ref CH) "_opening" = some none)
    (mkCH : PySem.W.makesIn K CH = true)
    (kpCH : PySem.W.keepIn K (.ref CH) = true)
    (rdCH : PySem.W.readsIn K CH (.type "type") = true)
    (gtCH : PySem.W.specialIn K (.ref CH) "__getattribute__" = some (some (.builtin "type.__getattribute__")))
    (b1sCHof : PySem.W.findCls K (.ref CH) (.type "type") "of" = some (.get (.builtin "staticmethod.__get__") (.ref sCHof) .none (.ref CH)))
    (b2sCHof : PySem.W.recIn K sCHof "staticmethod" = some (.ref f43 :: rsCHof))
    (b1pCHparts : PySem.W.findIn K (.ref CH) "parts" = some (some (.ref pCHparts)))
    (b2pCHparts : PySem.W.specialIn K (.ref pCHparts) "__get__" = some (some (.builtin "property.__get__")))
    (b3pCHparts : PySem.W.takesIn K (.ref pCHparts) = some true)
    (b4pCHparts : PySem.W.recIn K pCHparts "property" = some (.ref f44 :: rpCHparts))
    (aCW : PySem.W.nsIn K mainGlobals "WorkRow" = some (some (.ref CW)))
    (pgCW : PySem.W.plainGet K CW Str.empty = true)
    (hdCW : PySem.W.hasDictIn K CW = true)
    (poCW : PySem.W.plainOver K CW = true)
    (saCW : PySem.W.findIn K (.ref CW) "__setattr__" = some (some (.builtin "object.__setattr__")))
    (nCW_parts : PySem.W.findIn K (.ref CW) "_parts" = some none)
    (nCWlayout : PySem.W.findIn K (.ref CW) "layout" = some none)
    (nCW_opening : PySem.W.findIn K (.ref CW) "_opening" = some none)
    (mkCW : PySem.W.makesIn K CW = true)
    (kpCW : PySem.W.keepIn K (.ref CW) = true)
    (rdCW : PySem.W.readsIn K CW (.type "type") = true)
    (gtCW : PySem.W.specialIn K (.ref CW) "__getattribute__" = some (some (.builtin "type.__getattribute__")))
    (b1sCWof : PySem.W.findCls K (.ref CW) (.type "type") "of" = some (.get (.builtin "staticmethod.__get__") (.ref sCWof) .none (.ref CW)))
    (b2sCWof : PySem.W.recIn K sCWof "staticmethod" = some (.ref f46 :: rsCWof))
    (b1pCWparts : PySem.W.findIn K (.ref CW) "parts" = some (some (.ref pCWparts)))
    (b2pCWparts : PySem.W.specialIn K (.ref pCWparts) "__get__" = some (some (.builtin "property.__get__")))
    (b3pCWparts : PySem.W.takesIn K (.ref pCWparts) = some true)
    (b4pCWparts : PySem.W.recIn K pCWparts "property" = some (.ref f47 :: rpCWparts))
    (a1 : PySem.W.nsIn K mainGlobals "is_name" = some (some (.ref f1)))
    (l1 : K.lookup f1 = some ⟨oc1, od1, .func (PySem.W.fnOf "is_name" "is_name" (defArgs s_is_name) (defBody s_is_name) (defScope s_is_name) .none kV1 dc1 pm1 an1 cd1 ct1), sl1⟩)
    (c1 : PySem.W.codeIn K cd1 "is_name" = true)
    (k1 : PySem.W.keepIn K (.ref f1) = true)
    (a2 : PySem.W.nsIn K mainGlobals "is_item" = some (some (.ref f2)))
    (l2 : K.lookup f2 = some ⟨oc2, od2, .func (PySem.W.fnOf "is_item" "is_item" (defArgs s_is_item) (defBody s_is_item) (defScope s_is_item) .none kV2 dc2 pm2 an2 cd2 ct2), sl2⟩)
    (c2 : PySem.W.codeIn K cd2 "is_item" = true)
    (k2 : PySem.W.keepIn K (.ref f2) = true)
    (a3 : PySem.W.nsIn K mainGlobals "is_way_item" = some (some (.ref f3)))
    (l3 : K.lookup f3 = some ⟨oc3, od3, .func (PySem.W.fnOf "is_way_item" "is_way_item" (defArgs s_is_way_item) (defBody s_is_way_item) (defScope s_is_way_item) .none kV3 dc3 pm3 an3 cd3 ct3), sl3⟩)
    (c3 : PySem.W.codeIn K cd3 "is_way_item" = true)
    (k3 : PySem.W.keepIn K (.ref f3) = true)
    (a4 : PySem.W.nsIn K mainGlobals "is_ask_head" = some (some (.ref f4)))
    (l4 : K.lookup f4 = some ⟨oc4, od4, .func (PySem.W.fnOf "is_ask_head" "is_ask_head" (defArgs s_is_ask_head) (defBody s_is_ask_head) (defScope s_is_ask_head) .none kV4 dc4 pm4 an4 cd4 ct4), sl4⟩)
    (c4 : PySem.W.codeIn K cd4 "is_ask_head" = true)
    (k4 : PySem.W.keepIn K (.ref f4) = true)
    (a5 : PySem.W.nsIn K mainGlobals "_is_ask" = some (some (.ref f5)))
    (l5 : K.lookup f5 = some ⟨oc5, od5, .func (PySem.W.fnOf "_is_ask" "_is_ask" (defArgs s_is_ask) (defBody s_is_ask) (defScope s_is_ask) .none kV5 dc5 pm5 an5 cd5 ct5), sl5⟩)
    (c5 : PySem.W.codeIn K cd5 "_is_ask" = true)
    (k5 : PySem.W.keepIn K (.ref f5) = true)
    (a6 : PySem.W.nsIn K mainGlobals "_is_bare" = some (some (.ref f6)))
    (l6 : K.lookup f6 = some ⟨oc6, od6, .func (PySem.W.fnOf "_is_bare" "_is_bare" (defArgs s_is_bare) (defBody s_is_bare) (defScope s_is_bare) .none kV6 dc6 pm6 an6 cd6 ct6), sl6⟩)
    (c6 : PySem.W.codeIn K cd6 "_is_bare" = true)
    (k6 : PySem.W.keepIn K (.ref f6) = true)
    (a7 : PySem.W.nsIn K mainGlobals "_is_named" = some (some (.ref f7)))
    (l7 : K.lookup f7 = some ⟨oc7, od7, .func (PySem.W.fnOf "_is_named" "_is_named" (defArgs s_is_named) (defBody s_is_named) (defScope s_is_named) .none kV7 dc7 pm7 an7 cd7 ct7), sl7⟩)
    (c7 : PySem.W.codeIn K cd7 "_is_named" = true)
    (k7 : PySem.W.keepIn K (.ref f7) = true)
    (a8 : PySem.W.nsIn K mainGlobals "_is_word" = some (some (.ref f8)))
    (l8 : K.lookup f8 = some ⟨oc8, od8, .func (PySem.W.fnOf "_is_word" "_is_word" (defArgs s_is_word) (defBody s_is_word) (defScope s_is_word) .none kV8 dc8 pm8 an8 cd8 ct8), sl8⟩)
    (c8 : PySem.W.codeIn K cd8 "_is_word" = true)
    (k8 : PySem.W.keepIn K (.ref f8) = true)
    (a9 : PySem.W.nsIn K mainGlobals "check_items" = some (some (.ref f9)))
    (l9 : K.lookup f9 = some ⟨oc9, od9, .func (PySem.W.fnOf "check_items" "check_items" (defArgs s_check_items) (defBody s_check_items) (defScope s_check_items) .none kV9 dc9 pm9 an9 cd9 ct9), sl9⟩)
    (c9 : PySem.W.codeIn K cd9 "check_items" = true)
    (k9 : PySem.W.keepIn K (.ref f9) = true)
    (a10 : PySem.W.nsIn K mainGlobals "opening_of" = some (some (.ref f10)))
    (l10 : K.lookup f10 = some ⟨oc10, od10, .func (PySem.W.fnOf "opening_of" "opening_of" (defArgs s_opening_of) (defBody s_opening_of) (defScope s_opening_of) .none kV10 dc10 pm10 an10 cd10 ct10), sl10⟩)
    (c10 : PySem.W.codeIn K cd10 "opening_of" = true)
    (k10 : PySem.W.keepIn K (.ref f10) = true)
    (a11 : PySem.W.nsIn K mainGlobals "check_places" = some (some (.ref f11)))
    (l11 : K.lookup f11 = some ⟨oc11, od11, .func (PySem.W.fnOf "check_places" "check_places" (defArgs s_check_places) (defBody s_check_places) (defScope s_check_places) .none kV11 dc11 pm11 an11 cd11 ct11), sl11⟩)
    (c11 : PySem.W.codeIn K cd11 "check_places" = true)
    (k11 : PySem.W.keepIn K (.ref f11) = true)
    (a12 : PySem.W.nsIn K mainGlobals "_check_way_out" = some (some (.ref f12)))
    (l12 : K.lookup f12 = some ⟨oc12, od12, .func (PySem.W.fnOf "_check_way_out" "_check_way_out" (defArgs s_check_way_out) (defBody s_check_way_out) (defScope s_check_way_out) .none kV12 dc12 pm12 an12 cd12 ct12), sl12⟩)
    (c12 : PySem.W.codeIn K cd12 "_check_way_out" = true)
    (k12 : PySem.W.keepIn K (.ref f12) = true)
    (a13 : PySem.W.nsIn K mainGlobals "_way_out_of" = some (some (.ref f13)))
    (l13 : K.lookup f13 = some ⟨oc13, od13, .func (PySem.W.fnOf "_way_out_of" "_way_out_of" (defArgs s_way_out_of) (defBody s_way_out_of) (defScope s_way_out_of) .none kV13 dc13 pm13 an13 cd13 ct13), sl13⟩)
    (c13 : PySem.W.codeIn K cd13 "_way_out_of" = true)
    (k13 : PySem.W.keepIn K (.ref f13) = true)
    (a14 : PySem.W.nsIn K mainGlobals "_spread" = some (some (.ref f14)))
    (l14 : K.lookup f14 = some ⟨oc14, od14, .func (PySem.W.fnOf "_spread" "_spread" (defArgs s_spread) (defBody s_spread) (defScope s_spread) .none kV14 dc14 pm14 an14 cd14 ct14), sl14⟩)
    (c14 : PySem.W.codeIn K cd14 "_spread" = true)
    (k14 : PySem.W.keepIn K (.ref f14) = true)
    (a15 : PySem.W.nsIn K mainGlobals "_leads" = some (some (.ref f15)))
    (l15 : K.lookup f15 = some ⟨oc15, od15, .func (PySem.W.fnOf "_leads" "_leads" (defArgs s_leads) (defBody s_leads) (defScope s_leads) .none kV15 dc15 pm15 an15 cd15 ct15), sl15⟩)
    (c15 : PySem.W.codeIn K cd15 "_leads" = true)
    (k15 : PySem.W.keepIn K (.ref f15) = true)
    (a16 : PySem.W.nsIn K mainGlobals "_standings" = some (some (.ref f16)))
    (l16 : K.lookup f16 = some ⟨oc16, od16, .func (PySem.W.fnOf "_standings" "_standings" (defArgs s_standings) (defBody s_standings) (defScope s_standings) .none kV16 dc16 pm16 an16 cd16 ct16), sl16⟩)
    (c16 : PySem.W.codeIn K cd16 "_standings" = true)
    (k16 : PySem.W.keepIn K (.ref f16) = true)
    (a17 : PySem.W.nsIn K mainGlobals "_standing_behind" = some (some (.ref f17)))
    (l17 : K.lookup f17 = some ⟨oc17, od17, .func (PySem.W.fnOf "_standing_behind" "_standing_behind" (defArgs s_standing_behind) (defBody s_standing_behind) (defScope s_standing_behind) .none kV17 dc17 pm17 an17 cd17 ct17), sl17⟩)
    (c17 : PySem.W.codeIn K cd17 "_standing_behind" = true)
    (k17 : PySem.W.keepIn K (.ref f17) = true)
    (a18 : PySem.W.nsIn K mainGlobals "_may_stand" = some (some (.ref f18)))
    (l18 : K.lookup f18 = some ⟨oc18, od18, .func (PySem.W.fnOf "_may_stand" "_may_stand" (defArgs s_may_stand) (defBody s_may_stand) (defScope s_may_stand) .none kV18 dc18 pm18 an18 cd18 ct18), sl18⟩)
    (c18 : PySem.W.codeIn K cd18 "_may_stand" = true)
    (k18 : PySem.W.keepIn K (.ref f18) = true)
    (a19 : PySem.W.nsIn K mainGlobals "_ends_badly" = some (some (.ref f19)))
    (l19 : K.lookup f19 = some ⟨oc19, od19, .func (PySem.W.fnOf "_ends_badly" "_ends_badly" (defArgs s_ends_badly) (defBody s_ends_badly) (defScope s_ends_badly) .none kV19 dc19 pm19 an19 cd19 ct19), sl19⟩)
    (c19 : PySem.W.codeIn K cd19 "_ends_badly" = true)
    (k19 : PySem.W.keepIn K (.ref f19) = true)
    (a20 : PySem.W.nsIn K mainGlobals "_law_numbers" = some (some (.ref f20)))
    (l20 : K.lookup f20 = some ⟨oc20, od20, .func (PySem.W.fnOf "_law_numbers" "_law_numbers" (defArgs s_l_numbers) (defBody s_l_numbers) (defScope s_l_numbers) .none kV20 dc20 pm20 an20 cd20 ct20), sl20⟩)
    (c20 : PySem.W.codeIn K cd20 "_law_numbers" = true)
    (k20 : PySem.W.keepIn K (.ref f20) = true)
    (a21 : PySem.W.nsIn K mainGlobals "_law_pool" = some (some (.ref f21)))
    (l21 : K.lookup f21 = some ⟨oc21, od21, .func (PySem.W.fnOf "_law_pool" "_law_pool" (defArgs s_l_pool) (defBody s_l_pool) (defScope s_l_pool) .none kV21 dc21 pm21 an21 cd21 ct21), sl21⟩)
    (c21 : PySem.W.codeIn K cd21 "_law_pool" = true)
    (k21 : PySem.W.keepIn K (.ref f21) = true)
    (a22 : PySem.W.nsIn K mainGlobals "_law_draw" = some (some (.ref f22)))
    (l22 : K.lookup f22 = some ⟨oc22, od22, .func (PySem.W.fnOf "_law_draw" "_law_draw" (defArgs s_l_draw) (defBody s_l_draw) (defScope s_l_draw) .none kV22 dc22 pm22 an22 cd22 ct22), sl22⟩)
    (c22 : PySem.W.codeIn K cd22 "_law_draw" = true)
    (k22 : PySem.W.keepIn K (.ref f22) = true)
    (a23 : PySem.W.nsIn K mainGlobals "_law_pick" = some (some (.ref f23)))
    (l23 : K.lookup f23 = some ⟨oc23, od23, .func (PySem.W.fnOf "_law_pick" "_law_pick" (defArgs s_l_pick) (defBody s_l_pick) (defScope s_l_pick) .none kV23 dc23 pm23 an23 cd23 ct23), sl23⟩)
    (c23 : PySem.W.codeIn K cd23 "_law_pick" = true)
    (k23 : PySem.W.keepIn K (.ref f23) = true)
    (a24 : PySem.W.nsIn K mainGlobals "_law_closing" = some (some (.ref f24)))
    (l24 : K.lookup f24 = some ⟨oc24, od24, .func (PySem.W.fnOf "_law_closing" "_law_closing" (defArgs s_l_closing) (defBody s_l_closing) (defScope s_l_closing) .none kV24 dc24 pm24 an24 cd24 ct24), sl24⟩)
    (c24 : PySem.W.codeIn K cd24 "_law_closing" = true)
    (k24 : PySem.W.keepIn K (.ref f24) = true)
    (a25 : PySem.W.nsIn K mainGlobals "_law_way_out" = some (some (.ref f25)))
    (l25 : K.lookup f25 = some ⟨oc25, od25, .func (PySem.W.fnOf "_law_way_out" "_law_way_out" (defArgs s_l_way_out) (defBody s_l_way_out) (defScope s_l_way_out) .none kV25 dc25 pm25 an25 cd25 ct25), sl25⟩)
    (c25 : PySem.W.codeIn K cd25 "_law_way_out" = true)
    (k25 : PySem.W.keepIn K (.ref f25) = true)
    (a26 : PySem.W.nsIn K mainGlobals "_law_body" = some (some (.ref f26)))
    (l26 : K.lookup f26 = some ⟨oc26, od26, .func (PySem.W.fnOf "_law_body" "_law_body" (defArgs s_l_body) (defBody s_l_body) (defScope s_l_body) .none kV26 dc26 pm26 an26 cd26 ct26), sl26⟩)
    (c26 : PySem.W.codeIn K cd26 "_law_body" = true)
    (k26 : PySem.W.keepIn K (.ref f26) = true)
    (a27 : PySem.W.nsIn K mainGlobals "_law_hand" = some (some (.ref f27)))
    (l27 : K.lookup f27 = some ⟨oc27, od27, .func (PySem.W.fnOf "_law_hand" "_law_hand" (defArgs s_l_hand) (defBody s_l_hand) (defScope s_l_hand) .none kV27 dc27 pm27 an27 cd27 ct27), sl27⟩)
    (c27 : PySem.W.codeIn K cd27 "_law_hand" = true)
    (k27 : PySem.W.keepIn K (.ref f27) = true)
    (a28 : PySem.W.nsIn K mainGlobals "_law_work" = some (some (.ref f28)))
    (l28 : K.lookup f28 = some ⟨oc28, od28, .func (PySem.W.fnOf "_law_work" "_law_work" (defArgs s_l_work) (defBody s_l_work) (defScope s_l_work) .none kV28 dc28 pm28 an28 cd28 ct28), sl28⟩)
    (c28 : PySem.W.codeIn K cd28 "_law_work" = true)
    (k28 : PySem.W.keepIn K (.ref f28) = true)
    (a29 : PySem.W.nsIn K mainGlobals "_law_flags" = some (some (.ref f29)))
    (l29 : K.lookup f29 = some ⟨oc29, od29, .func (PySem.W.fnOf "_law_flags" "_law_flags" (defArgs s_l_flags) (defBody s_l_flags) (defScope s_l_flags) .none kV29 dc29 pm29 an29 cd29 ct29), sl29⟩)
    (c29 : PySem.W.codeIn K cd29 "_law_flags" = true)
    (k29 : PySem.W.keepIn K (.ref f29) = true)
    (a30 : PySem.W.nsIn K mainGlobals "_law_has_out" = some (some (.ref f30)))
    (l30 : K.lookup f30 = some ⟨oc30, od30, .func (PySem.W.fnOf "_law_has_out" "_law_has_out" (defArgs s_l_has_out) (defBody s_l_has_out) (defScope s_l_has_out) .none kV30 dc30 pm30 an30 cd30 ct30), sl30⟩)
    (c30 : PySem.W.codeIn K cd30 "_law_has_out" = true)
    (k30 : PySem.W.keepIn K (.ref f30) = true)
    (a31 : PySem.W.nsIn K mainGlobals "_law_numbered" = some (some (.ref f31)))
    (l31 : K.lookup f31 = some ⟨oc31, od31, .func (PySem.W.fnOf "_law_numbered" "_law_numbered" (defArgs s_l_numbered) (defBody s_l_numbered) (defScope s_l_numbered) .none kV31 dc31 pm31 an31 cd31 ct31), sl31⟩)
    (c31 : PySem.W.codeIn K cd31 "_law_numbered" = true)
    (k31 : PySem.W.keepIn K (.ref f31) = true)
    (a32 : PySem.W.nsIn K mainGlobals "_law_form_wrong" = some (some (.ref f32)))
    (l32 : K.lookup f32 = some ⟨oc32, od32, .func (PySem.W.fnOf "_law_form_wrong" "_law_form_wrong" (defArgs s_l_form_wrong) (defBody s_l_form_wrong) (defScope s_l_form_wrong) .none kV32 dc32 pm32 an32 cd32 ct32), sl32⟩)
    (c32 : PySem.W.codeIn K cd32 "_law_form_wrong" = true)
    (k32 : PySem.W.keepIn K (.ref f32) = true)
    (a33 : PySem.W.nsIn K mainGlobals "_law_opening" = some (some (.ref f33)))
    (l33 : K.lookup f33 = some ⟨oc33, od33, .func (PySem.W.fnOf "_law_opening" "_law_opening" (defArgs s_l_opening) (defBody s_l_opening) (defScope s_l_opening) .none kV33 dc33 pm33 an33 cd33 ct33), sl33⟩)
    (c33 : PySem.W.codeIn K cd33 "_law_opening" = true)
    (k33 : PySem.W.keepIn K (.ref f33) = true)
    (a34 : PySem.W.nsIn K mainGlobals "_law_step_wrong" = some (some (.ref f34)))
    (l34 : K.lookup f34 = some ⟨oc34, od34, .func (PySem.W.fnOf "_law_step_wrong" "_law_step_wrong" (defArgs s_l_step_wrong) (defBody s_l_step_wrong) (defScope s_l_step_wrong) .none kV34 dc34 pm34 an34 cd34 ct34), sl34⟩)
    (c34 : PySem.W.codeIn K cd34 "_law_step_wrong" = true)
    (k34 : PySem.W.keepIn K (.ref f34) = true)
    (a35 : PySem.W.nsIn K mainGlobals "_law_rule_wrong" = some (some (.ref f35)))
    (l35 : K.lookup f35 = some ⟨oc35, od35, .func (PySem.W.fnOf "_law_rule_wrong" "_law_rule_wrong" (defArgs s_l_rule_wrong) (defBody s_l_rule_wrong) (defScope s_l_rule_wrong) .none kV35 dc35 pm35 an35 cd35 ct35), sl35⟩)
    (c35 : PySem.W.codeIn K cd35 "_law_rule_wrong" = true)
    (k35 : PySem.W.keepIn K (.ref f35) = true)
    (a36 : PySem.W.nsIn K mainGlobals "_law_due" = some (some (.ref f36)))
    (l36 : K.lookup f36 = some ⟨oc36, od36, .func (PySem.W.fnOf "_law_due" "_law_due" (defArgs s_l_due) (defBody s_l_due) (defScope s_l_due) .none kV36 dc36 pm36 an36 cd36 ct36), sl36⟩)
    (c36 : PySem.W.codeIn K cd36 "_law_due" = true)
    (k36 : PySem.W.keepIn K (.ref f36) = true)
    (a37 : PySem.W.nsIn K mainGlobals "_law_heard" = some (some (.ref f37)))
    (l37 : K.lookup f37 = some ⟨oc37, od37, .func (PySem.W.fnOf "_law_heard" "_law_heard" (defArgs s_l_heard) (defBody s_l_heard) (defScope s_l_heard) .none kV37 dc37 pm37 an37 cd37 ct37), sl37⟩)
    (c37 : PySem.W.codeIn K cd37 "_law_heard" = true)
    (k37 : PySem.W.keepIn K (.ref f37) = true)
    (a38 : PySem.W.nsIn K mainGlobals "_law_bent" = some (some (.ref f38)))
    (l38 : K.lookup f38 = some ⟨oc38, od38, .func (PySem.W.fnOf "_law_bent" "_law_bent" (defArgs s_l_bent) (defBody s_l_bent) (defScope s_l_bent) .none kV38 dc38 pm38 an38 cd38 ct38), sl38⟩)
    (c38 : PySem.W.codeIn K cd38 "_law_bent" = true)
    (k38 : PySem.W.keepIn K (.ref f38) = true)
    (a39 : PySem.W.nsIn K mainGlobals "law" = some (some (.ref f39)))
    (l39 : K.lookup f39 = some ⟨oc39, od39, .func (PySem.W.fnOf "law" "law" (defArgs s_law) (defBody s_law) (defScope s_law) .none kV39 dc39 pm39 an39 cd39 ct39), sl39⟩)
    (c39 : PySem.W.codeIn K cd39 "law" = true)
    (k39 : PySem.W.keepIn K (.ref f39) = true)
    (l40 : K.lookup f40 = some ⟨oc40, od40, .func (PySem.W.fnOf "__init__" "InvalidItem.__init__" (defArgs sII_init) (defBody sII_init) (defScope sII_init) .none kV40 dc40 pm40 an40 cd40 ct40), sl40⟩)
    (c40 : PySem.W.codeIn K cd40 "InvalidItem.__init__" = true)
    (k40 : PySem.W.keepIn K (.ref f40) = true)
    (a41 : PySem.W.findIn K (.ref CL) "__init__" = some (some (.ref f41)))
    (i41 : PySem.W.isFn K (.ref f41) = true)
    (fn41 : PySem.W.fnIn K f41 = true)
    (l41 : K.lookup f41 = some ⟨oc41, od41, .func (PySem.W.fnOf "__init__" "Layout.__init__" (defArgs sLay_init) (defBody sLay_init) (defScope sLay_init) .none kV41 dc41 pm41 an41 cd41 ct41), sl41⟩)
    (c41 : PySem.W.codeIn K cd41 "Layout.__init__" = true)
    (k41 : PySem.W.keepIn K (.ref f41) = true)
    (a42 : PySem.W.findIn K (.ref CH) "__init__" = some (some (.ref f42)))
    (i42 : PySem.W.isFn K (.ref f42) = true)
    (fn42 : PySem.W.fnIn K f42 = true)
    (l42 : K.lookup f42 = some ⟨oc42, od42, .func (PySem.W.fnOf "__init__" "HandRow.__init__" (defArgs sHR_init) (defBody sHR_init) (defScope sHR_init) .none kV42 dc42 pm42 an42 cd42 ct42), sl42⟩)
    (c42 : PySem.W.codeIn K cd42 "HandRow.__init__" = true)
    (k42 : PySem.W.keepIn K (.ref f42) = true)
    (l43 : K.lookup f43 = some ⟨oc43, od43, .func (PySem.W.fnOf "of" "HandRow.of" (defArgs sHR_of) (defBody sHR_of) (defScope sHR_of) .none kV43 dc43 pm43 an43 cd43 ct43), sl43⟩)
    (c43 : PySem.W.codeIn K cd43 "HandRow.of" = true)
    (k43 : PySem.W.keepIn K (.ref f43) = true)
    (l44 : K.lookup f44 = some ⟨oc44, od44, .func (PySem.W.fnOf "parts" "HandRow.parts" (defArgs s_hr_parts) (defBody s_hr_parts) (defScope s_hr_parts) .none kV44 dc44 pm44 an44 cd44 ct44), sl44⟩)
    (c44 : PySem.W.codeIn K cd44 "HandRow.parts" = true)
    (k44 : PySem.W.keepIn K (.ref f44) = true)
    (a45 : PySem.W.findIn K (.ref CW) "__init__" = some (some (.ref f45)))
    (i45 : PySem.W.isFn K (.ref f45) = true)
    (fn45 : PySem.W.fnIn K f45 = true)
    (l45 : K.lookup f45 = some ⟨oc45, od45, .func (PySem.W.fnOf "__init__" "WorkRow.__init__" (defArgs sWR_init) (defBody sWR_init) (defScope sWR_init) .none kV45 dc45 pm45 an45 cd45 ct45), sl45⟩)
    (c45 : PySem.W.codeIn K cd45 "WorkRow.__init__" = true)
    (k45 : PySem.W.keepIn K (.ref f45) = true)
    (l46 : K.lookup f46 = some ⟨oc46, od46, .func (PySem.W.fnOf "of" "WorkRow.of" (defArgs sWR_of) (defBody sWR_of) (defScope sWR_of) .none kV46 dc46 pm46 an46 cd46 ct46), sl46⟩)
    (c46 : PySem.W.codeIn K cd46 "WorkRow.of" = true)
    (k46 : PySem.W.keepIn K (.ref f46) = true)
    (l47 : K.lookup f47 = some ⟨oc47, od47, .func (PySem.W.fnOf "parts" "WorkRow.parts" (defArgs s_wr_parts) (defBody s_wr_parts) (defScope s_wr_parts) .none kV47 dc47 pm47 an47 cd47 ct47), sl47⟩)
    (c47 : PySem.W.codeIn K cd47 "WorkRow.parts" = true)
    (k47 : PySem.W.keepIn K (.ref f47) = true)
    : ∃ fd : FuncData, (∀ (s : Shared) (v : Value), BindsTo s fd ⟨[v], []⟩ [("_law_script", v)]) ∧ ∀ base : Heap, K.In base → base.Ns mainGlobals mg → FnOk l.prog w K mg base CX0 12 fa fd ["_law_script"] (spLaw K) := by
  have e := hfa.symm.trans (PySem.W.mg_of X G a39)
  cases e
  have hsrt : mg "sorted" = none := PySem.W.mg_none_of X G z_sorted
  have T : Txt K mg lt0 lt1 lt2 lt0 lt4 t0 t1 t2 t3 t0 t0 t0 t7 t8 tF tO dC := { m_max := PySem.W.mg_none_of X G z_max, m_range := PySem.W.mg_none_of X G z_range, m_len := PySem.W.mg_none_of X G z_len, m_int := PySem.W.mg_none_of X G z_int, m_bool := PySem.W.mg_none_of X G z_bool, m_isinstance := PySem.W.mg_none_of X G z_isinstance, m_str := PySem.W.mg_none_of X G z_str, m_all := PySem.W.mg_none_of X G z_all, m_any := PySem.W.mg_none_of X G z_any, m_tuple := PySem.W.mg_none_of X G z_tuple, m_list := PySem.W.mg_none_of X G z_list, m_enumerate := PySem.W.mg_none_of X G z_enumerate, m_repr := PySem.W.mg_none_of X G z_repr, m_min := PySem.W.mg_none_of X G z_min, m_dict := PySem.W.mg_none_of X G z_dict, c_LONGEST_NAME := PySem.W.mg_of X G y_lt0, c_MOST_IN_WAY_OUT := PySem.W.mg_of X G y_lt1, c_MOST_ITEMS := PySem.W.mg_of X G y_lt2, c_LONGEST_OPENING := PySem.W.mg_of X G y_lt4, c_OPENERS := PySem.W.mg_of X G y_t0, c_BARE_ITEMS := PySem.W.mg_of X G y_t1, c_NAMED_ITEMS := PySem.W.mg_of X G y_t2, c_ASKS := PySem.W.mg_of X G y_t3, c_NOT_BEHIND_OPENING := PySem.W.mg_of X G y_t7, c_NOT_IN_WORKS := PySem.W.mg_of X G y_t8, c_AT_FIRST := PySem.W.mg_of X G y_tF, c_OPENINGS := PySem.W.mg_of X G y_tO, c_CHANGES := PySem.W.mg_of X G y_dC, w0 := tup_ofV x_t0 v_t0 (by decide), w1 := tup_ofV x_t1 v_t1 (by decide), w2 := tup_ofV x_t2 v_t2 (by decide), w3 := tup_ofV x_t3 v_t3 (by decide), w7 := tup_ofV x_t7 v_t7 (by decide), w8 := tup_ofV x_t8 v_t8 (by decide), wF := tup_ofV x_tF v_tF (by decide) }
  have TS : ExT K mg "InvalidItem" "number" S f40 := exT_of X G aS xS rfl saS exS tyS kpS noS gaS ggS hdS iiS tiS icS ssS
  have clCL : Cls K CL := ⟨pgCL, hdCL, poCL, saCL⟩
  have MCL : Mk K CL f41 := ⟨mkCL, a41, i41, kpCL⟩
  have clCH : Cls K CH := ⟨pgCH, hdCH, poCH, saCH⟩
  have MCH : Mk K CH f42 := ⟨mkCH, a42, i42, kpCH⟩
  have RDCH : ClX.CRead K CH (.type "type") := ⟨rdCH, gtCH⟩
  have SM_hr_of : SMet K CH (.type "type") "of" sCHof f43 := ⟨b1sCHof, ⟨_, b2sCHof⟩, k43⟩
  have PP_hr_parts : PropOf K CH "parts" pCHparts f44 := ⟨b1pCHparts, b2pCHparts, b3pCHparts, ⟨_, b4pCHparts⟩⟩
  have clCW : Cls K CW := ⟨pgCW, hdCW, poCW, saCW⟩
  have MCW : Mk K CW f45 := ⟨mkCW, a45, i45, kpCW⟩
  have RDCW : ClX.CRead K CW (.type "type") := ⟨rdCW, gtCW⟩
  have SM_wr_of : SMet K CW (.type "type") "of" sCWof f46 := ⟨b1sCWof, ⟨_, b2sCWof⟩, k46⟩
  have PP_wr_parts : PropOf K CW "parts" pCWparts f47 := ⟨b1pCWparts, b2pCWparts, b3pCWparts, ⟨_, b4pCWparts⟩⟩
  have F_is_name := fun_mk (st := s_is_name) l1 c1 k1
  have b_is_name := F_is_name.binds (ps := ["value"]) fun _ _ _ _ _ _ us hl => match us, hl with | [_], _ => rfl
  have g_is_name := PySem.W.mg_of X G a1
  have F_is_item := fun_mk (st := s_is_item) l2 c2 k2
  have b_is_item := F_is_item.binds (ps := ["value"]) fun _ _ _ _ _ _ us hl => match us, hl with | [_], _ => rfl
  have g_is_item := PySem.W.mg_of X G a2
  have F_is_way_item := fun_mk (st := s_is_way_item) l3 c3 k3
  have b_is_way_item := F_is_way_item.binds (ps := ["value"]) fun _ _ _ _ _ _ us hl => match us, hl with | [_], _ => rfl
  have g_is_way_item := PySem.W.mg_of X G a3
  have F_is_ask_head := fun_mk (st := s_is_ask_head) l4 c4 k4
  have b_is_ask_head := F_is_ask_head.binds (ps := ["value"]) fun _ _ _ _ _ _ us hl => match us, hl with | [_], _ => rfl
  have g_is_ask_head := PySem.W.mg_of X G a4
  have F_is_ask := fun_mk (st := s_is_ask) l5 c5 k5
  have b_is_ask := F_is_ask.binds (ps := ["value"]) fun _ _ _ _ _ _ us hl => match us, hl with | [_], _ => rfl
  have g_is_ask := PySem.W.mg_of X G a5
  have F_is_bare := fun_mk (st := s_is_bare) l6 c6 k6
  have b_is_bare := F_is_bare.binds (ps := ["value", "words"]) fun _ _ _ _ _ _ us hl => match us, hl with | [_, _], _ => rfl
  have g_is_bare := PySem.W.mg_of X G a6
  have F_is_named := fun_mk (st := s_is_named) l7 c7 k7
  have b_is_named := F_is_named.binds (ps := ["value", "words"]) fun _ _ _ _ _ _ us hl => match us, hl with | [_, _], _ => rfl
  have g_is_named := PySem.W.mg_of X G a7
  have F_is_word := fun_mk (st := s_is_word) l8 c8 k8
  have b_is_word := F_is_word.binds (ps := ["value", "words"]) fun _ _ _ _ _ _ us hl => match us, hl with | [_, _], _ => rfl
  have g_is_word := PySem.W.mg_of X G a8
  have F_check_items := fun_mk (st := s_check_items) l9 c9 k9
  have b_check_items := F_check_items.binds (ps := ["parts"]) fun _ _ _ _ _ _ us hl => match us, hl with | [_], _ => rfl
  have g_check_items := PySem.W.mg_of X G a9
  have F_opening_of := fun_mk (st := s_opening_of) l10 c10 k10
  have b_opening_of := F_opening_of.binds (ps := ["parts"]) fun _ _ _ _ _ _ us hl => match us, hl with | [_], _ => rfl
  have g_opening_of := PySem.W.mg_of X G a10
  have F_check_places := fun_mk (st := s_check_places) l11 c11 k11
  have b_check_places := F_check_places.binds (ps := ["layout", "opening", "barred"]) fun _ _ _ _ _ _ us hl => match us, hl with | [_, _, _], _ => rfl
  have g_check_places := PySem.W.mg_of X G a11
  have F_check_way_out := fun_mk (st := s_check_way_out) l12 c12 k12
  have b_check_way_out := F_check_way_out.binds (ps := ["way_out", "number"]) fun _ _ _ _ _ _ us hl => match us, hl with | [_, _], _ => rfl
  have g_check_way_out := PySem.W.mg_of X G a12
  have F_way_out_of := fun_mk (st := s_way_out_of) l13 c13 k13
  have b_way_out_of := F_way_out_of.binds (ps := ["part"]) fun _ _ _ _ _ _ us hl => match us, hl with | [_], _ => rfl
  have g_way_out_of := PySem.W.mg_of X G a13
  have F_spread := fun_mk (st := s_spread) l14 c14 k14
  have b_spread := F_spread.binds (ps := ["parts"]) fun _ _ _ _ _ _ us hl => match us, hl with | [_], _ => rfl
  have g_spread := PySem.W.mg_of X G a14
  have F_leads := fun_mk (st := s_leads) l15 c15 k15
  have b_leads := F_leads.binds (ps := ["parts", "end"]) fun _ _ _ _ _ _ us hl => match us, hl with | [_, _], _ => rfl
  have g_leads := PySem.W.mg_of X G a15
  have F_standings := fun_mk (st := s_standings) l16 c16 k16
  have b_standings := F_standings.binds (ps := ["placed", "leads"]) fun _ _ _ _ _ _ us hl => match us, hl with | [_, _], _ => rfl
  have g_standings := PySem.W.mg_of X G a16
  have F_standing_behind := fun_mk (st := s_standing_behind) l17 c17 k17
  have b_standing_behind := F_standing_behind.binds (ps := ["standing", "word"]) fun _ _ _ _ _ _ us hl => match us, hl with | [_, _], _ => rfl
  have g_standing_behind := PySem.W.mg_of X G a17
  have F_may_stand := fun_mk (st := s_may_stand) l18 c18 k18
  have b_may_stand := F_may_stand.binds (ps := ["layout", "place"]) fun _ _ _ _ _ _ us hl => match us, hl with | [_, _], _ => rfl
  have g_may_stand := PySem.W.mg_of X G a18
  have F_ends_badly := fun_mk (st := s_ends_badly) l19 c19 k19
  have b_ends_badly := F_ends_badly.binds (ps := ["layout", "place"]) fun _ _ _ _ _ _ us hl => match us, hl with | [_, _], _ => rfl
  have g_ends_badly := PySem.W.mg_of X G a19
  have F_l_numbers := fun_mk (st := s_l_numbers) l20 c20 k20
  have b_l_numbers := F_l_numbers.binds (ps := ["_law_cell", "_law_salt", "_law_sizes"]) fun _ _ _ _ _ _ us hl => match us, hl with | [_, _, _], _ => rfl
  have g_l_numbers := PySem.W.mg_of X G a20
  have F_l_pool := fun_mk (st := s_l_pool) l21 c21 k21
  have b_l_pool := F_l_pool.binds (ps := ["_law_cell", "_law_salt", "_law_many"]) fun _ _ _ _ _ _ us hl => match us, hl with | [_, _, _], _ => rfl
  have g_l_pool := PySem.W.mg_of X G a21
  have F_l_draw := fun_mk (st := s_l_draw) l22 c22 k22
  have b_l_draw := F_l_draw.binds (ps := ["_law_pool_here", "_law_many"]) fun _ _ _ _ _ _ us hl => match us, hl with | [_, _], _ => rfl
  have g_l_draw := PySem.W.mg_of X G a22
  have F_l_pick := fun_mk (st := s_l_pick) l23 c23 k23
  have b_l_pick := F_l_pick.binds (ps := ["_law_pool_here", "_law_some"]) fun _ _ _ _ _ _ us hl => match us, hl with | [_, _], _ => rfl
  have g_l_pick := PySem.W.mg_of X G a23
  have F_l_closing := fun_mk (st := s_l_closing) l24 c24 k24
  have b_l_closing := F_l_closing.binds (ps := ["_law_pool_here", "_law_under", "_law_locked", "_law_lets", "_law_leak"]) fun _ _ _ _ _ _ us hl => match us, hl with | [_, _, _, _, _], _ => rfl
  have g_l_closing := PySem.W.mg_of X G a24
  have F_l_way_out := fun_mk (st := s_l_way_out) l25 c25 k25
  have b_l_way_out := F_l_way_out.binds (ps := ["_law_pool_here", "_law_under", "_law_locked", "_law_lets"]) fun _ _ _ _ _ _ us hl => match us, hl with | [_, _, _, _], _ => rfl
  have g_l_way_out := PySem.W.mg_of X G a25
  have F_l_body := fun_mk (st := s_l_body) l26 c26 k26
  have b_l_body := F_l_body.binds (ps := ["_law_pool_here", "_law_names", "_law_room", "_law_lets"]) fun _ _ _ _ _ _ us hl => match us, hl with | [_, _, _, _], _ => rfl
  have g_l_body := PySem.W.mg_of X G a26
  have F_l_hand := fun_mk (st := s_l_hand) l27 c27 k27
  have b_l_hand := F_l_hand.binds (ps := ["_law_pool_here", "_law_names"]) fun _ _ _ _ _ _ us hl => match us, hl with | [_, _], _ => rfl
  have g_l_hand := PySem.W.mg_of X G a27
  have F_l_work := fun_mk (st := s_l_work) l28 c28 k28
  have b_l_work := F_l_work.binds (ps := ["_law_pool_here", "_law_names"]) fun _ _ _ _ _ _ us hl => match us, hl with | [_, _], _ => rfl
  have g_l_work := PySem.W.mg_of X G a28
  have F_l_flags := fun_mk (st := s_l_flags) l29 c29 k29
  have b_l_flags := F_l_flags.binds (ps := ["_law_flags_here", "_law_item"]) fun _ _ _ _ _ _ us hl => match us, hl with | [_, _], _ => rfl
  have g_l_flags := PySem.W.mg_of X G a29
  have F_l_has_out := fun_mk (st := s_l_has_out) l30 c30 k30
  have b_l_has_out := F_l_has_out.binds (ps := ["_law_item"]) fun _ _ _ _ _ _ us hl => match us, hl with | [_], _ => rfl
  have g_l_has_out := PySem.W.mg_of X G a30
  have F_l_numbered := fun_mk (st := s_l_numbered) l31 c31 k31
  have b_l_numbered := F_l_numbered.binds (ps := ["_law_items"]) fun _ _ _ _ _ _ us hl => match us, hl with | [_], _ => rfl
  have g_l_numbered := PySem.W.mg_of X G a31
  have F_l_form_wrong := fun_mk (st := s_l_form_wrong) l32 c32 k32
  have b_l_form_wrong := F_l_form_wrong.binds (ps := ["_law_items"]) fun _ _ _ _ _ _ us hl => match us, hl with | [_], _ => rfl
  have g_l_form_wrong := PySem.W.mg_of X G a32
  have F_l_opening := fun_mk (st := s_l_opening) l33 c33 k33
  have b_l_opening := F_l_opening.binds (ps := ["_law_items"]) fun _ _ _ _ _ _ us hl => match us, hl with | [_], _ => rfl
  have g_l_opening := PySem.W.mg_of X G a33
  have F_l_step_wrong := fun_mk (st := s_l_step_wrong) l34 c34 k34
  have b_l_step_wrong := F_l_step_wrong.binds (ps := ["_law_item", "_law_flags_here", "_law_is_last"]) fun _ _ _ _ _ _ us hl => match us, hl with | [_, _, _], _ => rfl
  have g_l_step_wrong := PySem.W.mg_of X G a34
  have F_l_rule_wrong := fun_mk (st := s_l_rule_wrong) l35 c35 k35
  have b_l_rule_wrong := F_l_rule_wrong.binds (ps := ["_law_items", "_law_opening_here"]) fun _ _ _ _ _ _ us hl => match us, hl with | [_, _], _ => rfl
  have g_l_rule_wrong := PySem.W.mg_of X G a35
  have F_l_due := fun_mk (st := s_l_due) l36 c36 k36
  have b_l_due := F_l_due.binds (ps := ["_law_items", "_law_is_hand"]) fun _ _ _ _ _ _ us hl => match us, hl with | [_, _], _ => rfl
  have g_l_due := PySem.W.mg_of X G a36
  have F_l_heard := fun_mk (st := s_l_heard) l37 c37 k37
  have b_l_heard := F_l_heard.binds (ps := ["_law_items", "_law_is_hand"]) fun _ _ _ _ _ _ us hl => match us, hl with | [_, _], _ => rfl
  have g_l_heard := PySem.W.mg_of X G a37
  have F_l_bent := fun_mk (st := s_l_bent) l38 c38 k38
  have b_l_bent := F_l_bent.binds (ps := ["_law_pool_here", "_law_items"]) fun _ _ _ _ _ _ us hl => match us, hl with | [_, _], _ => rfl
  have g_l_bent := PySem.W.mg_of X G a38
  have F_law := fun_mk (st := s_law) l39 c39 k39
  have F_ii_init := fun_mk (st := sII_init) l40 c40 k40
  have b_ii_init := F_ii_init.binds (ps := ["self", "number"]) fun _ _ _ _ _ _ us hl => match us, hl with | [_, _], _ => rfl
  have F_lay_init := fun_mk (st := sLay_init) l41 c41 k41
  have b_lay_init := F_lay_init.binds (ps := ["self", "parts"]) fun _ _ _ _ _ _ us hl => match us, hl with | [_, _], _ => rfl
  have F_hr_init := fun_mk (st := sHR_init) l42 c42 k42
  have F_hr_of := fun_mk (st := sHR_of) l43 c43 k43
  have b_hr_of := F_hr_of.binds (ps := ["items"]) fun _ _ _ _ _ _ us hl => match us, hl with | [_], _ => rfl
  have F_hr_parts := fun_mk (st := s_hr_parts) l44 c44 k44
  have b_hr_parts := F_hr_parts.binds (ps := ["self"]) fun _ _ _ _ _ _ us hl => match us, hl with | [_], _ => rfl
  have F_wr_init := fun_mk (st := sWR_init) l45 c45 k45
  have F_wr_of := fun_mk (st := sWR_of) l46 c46 k46
  have b_wr_of := F_wr_of.binds (ps := ["items"]) fun _ _ _ _ _ _ us hl => match us, hl with | [_], _ => rfl
  have F_wr_parts := fun_mk (st := s_wr_parts) l47 c47 k47
  have b_wr_parts := F_wr_parts.binds (ps := ["self"]) fun _ _ _ _ _ _ us hl => match us, hl with | [_], _ => rfl
  have LT : LyT K mg CL := ⟨PySem.W.mg_of X G aCL, clCL, nCLplaced, nCLend, nCLleads, nCLstandings⟩
  have CTh : RwT K mg "HandRow" CH := ⟨PySem.W.mg_of X G aCH, clCH, nCH_parts, nCHlayout, nCH_opening⟩
  have CTw : RwT K mg "WorkRow" CW := ⟨PySem.W.mg_of X G aCW, clCW, nCW_parts, nCWlayout, nCW_opening⟩
  have hO : ∀ H, Dp K H (.ref tO) (.tuple (opens.map strsD)) := fun H => .tup (tup_ofV x_tO v_tO (by show 6 ≤ 1000; decide) H) (.cons (.tup (tup_ofV x_o0 v_o0 (by decide) H) (dp_strs _)) (.cons (.tup (tup_ofV x_o1 v_o1 (by decide) H) (dp_strs _)) (.cons (.tup (tup_ofV x_o2 v_o2 (by decide) H) (dp_strs _)) (.cons (.tup (tup_ofV x_o3 v_o3 (by decide) H) (dp_strs _)) (.cons (.tup (tup_ofV x_o4 v_o4 (by decide) H) (dp_strs _)) (.cons (.tup (tup_ofV x_o5 v_o5 (by decide) H) (dp_strs _)) (.nil)))))))
  have hC : Chg K w dC := chg_of x_dC q_dC u_dC lo_dC (tup_ofV x_h0 v_h0 (by decide)) (tup_ofV x_h1 v_h1 (by decide)) (tup_ofV x_h2 v_h2 (by decide)) (tup_ofV x_h3 v_h3 (by decide)) (tup_ofV x_h4 v_h4 (by decide)) (tup_ofV x_h5 v_h5 (by decide)) (tup_ofV x_h6 v_h6 (by decide))
  refine ⟨PySem.W.fnOf "law" "law" (defArgs s_law) (defBody s_law) (defScope s_law) .none kV39 dc39 pm39 an39 cd39 ct39, fun s v => .of_eq rfl, fun base _ _ => ?_⟩
  have G_is_word : FnOk l.prog w K mg base CX0 1 f8 _ ["value", "words"] ((spChkW K isWordP)) := ok_is_word F_is_word T
  have G_is_name : FnOk l.prog w K mg base CX0 1 f1 _ ["value"] ((spChk K isNameP)) := ok_is_name F_is_name T
  have G_is_bare : FnOk l.prog w K mg base CX0 2 f6 _ ["value", "words"] ((spChkW K isBareP)) := ok_is_bare F_is_bare T F_is_word b_is_word g_is_word G_is_word
  have G_is_named : FnOk l.prog w K mg base CX0 2 f7 _ ["value", "words"] ((spChkW K isNamedP)) := ok_is_named F_is_named T F_is_word b_is_word g_is_word G_is_word F_is_name b_is_name g_is_name G_is_name
  have G_is_way_item : FnOk l.prog w K mg base CX0 3 f3 _ ["value"] ((spChk K isWayItemP)) := ok_is_way_item F_is_way_item T F_is_bare b_is_bare g_is_bare G_is_bare F_is_named b_is_named g_is_named G_is_named
  have G_is_ask_head : FnOk l.prog w K mg base CX0 2 f4 _ ["value"] ((spChk K isHeadP)) := ok_is_ask_head F_is_ask_head T F_is_word b_is_word g_is_word G_is_word F_is_name b_is_name g_is_name G_is_name
  have G_is_ask : FnOk l.prog w K mg base CX0 5 f5 _ ["value"] ((spChk K isAskP)) := ok_is_ask F_is_ask T F_is_ask_head b_is_ask_head g_is_ask_head G_is_ask_head F_is_way_item b_is_way_item g_is_way_item G_is_way_item
  have G_is_item : FnOk l.prog w K mg base CX0 6 f2 _ ["value"] ((spChk K isItemP)) := ok_is_item F_is_item T F_is_bare b_is_bare g_is_bare G_is_bare F_is_way_item b_is_way_item g_is_way_item G_is_way_item F_is_ask b_is_ask g_is_ask G_is_ask
  have G_way_out_of : FnOk l.prog w K mg base CX0 1 f13 _ ["part"] ((spWay K)) := ok_way_out_of F_way_out_of T
  have G_spread : FnOk l.prog w K mg base CX0 2 f14 _ ["parts"] ((spSpread K)) := ok_spread F_spread T F_way_out_of b_way_out_of g_way_out_of G_way_out_of
  have G_standing_behind : FnOk l.prog w K mg base CX0 1 f17 _ ["standing", "word"] ((spStB K)) := ok_standing_behind F_standing_behind T hC
  have G_leads : FnOk l.prog w K mg base CX0 2 f15 _ ["parts", "end"] ((spLeads K)) := ok_leads F_leads T F_way_out_of b_way_out_of g_way_out_of G_way_out_of
  have G_standings : FnOk l.prog w K mg base CX0 2 f16 _ ["placed", "leads"] ((spStandings K)) := ok_standings F_standings T F_standing_behind b_standing_behind g_standing_behind G_standing_behind
  have G_lay_init : FnOk l.prog w K mg base CX0 3 f41 _ ["self", "parts"] (spLayI K CL) := ok_lay_init F_lay_init T LT F_spread b_spread g_spread G_spread F_leads b_leads g_leads G_leads F_standings b_standings g_standings G_standings
  have R_lay_init := (G_lay_init.raw b_lay_init .nil).imp fun vs H Q E h => by rw [List.append_nil]; exact h
  have G_ends_badly : FnOk l.prog w K mg base CX0 2 f19 _ ["layout", "place"] (spPl K CL endB) := ok_ends_badly F_ends_badly T LT F_standing_behind b_standing_behind g_standing_behind G_standing_behind
  have G_may_stand : FnOk l.prog w K mg base CX0 1 f18 _ ["layout", "place"] (spPl K CL mayB) := ok_may_stand F_may_stand T LT
  have G_ii_init : FnOk l.prog w K mg base CX0 1 f40 _ ["self", "number"] (spExI S "number") := ok_ii_init F_ii_init TS
  have G_check_places : FnOk l.prog w K mg base (L2.CX l.prog w) 3 f11 _ ["layout", "opening", "barred"] (spPlaces K CL S) := ok_check_places F_check_places T LT TS b_ii_init G_ii_init F_may_stand b_may_stand g_may_stand G_may_stand F_ends_badly b_ends_badly g_ends_badly G_ends_badly
  have G_check_way_out : FnOk l.prog w K mg base (L2.CX l.prog w) 4 f12 _ ["way_out", "number"] ((spCwo K S)) := ok_check_way_out F_check_way_out T TS b_ii_init G_ii_init F_is_way_item b_is_way_item g_is_way_item G_is_way_item
  have G_check_items : FnOk l.prog w K mg base (L2.CX l.prog w) 7 f9 _ ["parts"] ((spItems K S)) := ok_check_items F_check_items T TS b_ii_init G_ii_init F_check_way_out b_check_way_out g_check_way_out G_check_way_out F_is_ask_head b_is_ask_head g_is_ask_head G_is_ask_head F_is_item b_is_item g_is_item G_is_item
  have G_opening_of : FnOk l.prog w K mg base (L2.CX l.prog w) 3 f10 _ ["parts"] ((spOpen K S tO)) := ok_opening_of F_opening_of T TS b_ii_init G_ii_init
  have G_hr_init : FnR l.prog w K mg base (L2.CX l.prog w) 8 f42 (spStar 1 (spRowHI K CH CL S true)) := ok_hr_init F_hr_init T CTh LT MCL R_lay_init F_check_items b_check_items g_check_items G_check_items F_opening_of b_opening_of g_opening_of G_opening_of hO F_check_places b_check_places g_check_places G_check_places
  have G_wr_init : FnR l.prog w K mg base (L2.CX l.prog w) 8 f45 (spStar 1 (spRowHI K CW CL S false)) := ok_wr_init F_wr_init T CTw LT MCL R_lay_init F_check_items b_check_items g_check_items G_check_items F_check_places b_check_places g_check_places G_check_places
  have G_hr_of : FnOk l.prog w K mg base (L2.CX l.prog w) 10 f43 _ ["items"] (spHrOf K CH CL S) := ok_hr_of F_hr_of T CTh TS b_ii_init G_ii_init MCH G_hr_init
  have R_hr_of := (G_hr_of.raw b_hr_of .nil).imp fun vs H Q E h => by rw [List.append_nil]; exact h
  have G_wr_of : FnOk l.prog w K mg base (L2.CX l.prog w) 10 f46 _ ["items"] (spWrOf K CW CL S) := ok_wr_of F_wr_of T CTw TS b_ii_init G_ii_init MCW G_wr_init
  have R_wr_of := (G_wr_of.raw b_wr_of .nil).imp fun vs H Q E h => by rw [List.append_nil]; exact h
  have G_hr_parts : FnOk l.prog w K mg base CX0 1 f44 _ ["self"] (getSp CH "_parts") := ok_hr_parts F_hr_parts CTh
  have G_wr_parts : FnOk l.prog w K mg base CX0 1 f47 _ ["self"] (getSp CW "_parts") := ok_wr_parts F_wr_parts CTw
  have G_l_numbers : FnOk l.prog w K mg base CX0 1 f20 _ ["_law_cell", "_law_salt", "_law_sizes"] ((spNum K)) := ok_num F_l_numbers T.m_max T.m_range T.m_len
  have G_l_pool : FnOk l.prog w K mg base CX0 2 f21 _ ["_law_cell", "_law_salt", "_law_many"] ((spPool K)) := ok_l_pool F_l_pool T.toBlt F_l_numbers b_l_numbers g_l_numbers G_l_numbers
  have G_l_draw : FnOk l.prog w K mg base CX0 1 f22 _ ["_law_pool_here", "_law_many"] ((spDraw K)) := ok_l_draw F_l_draw T.toBlt
  have G_l_pick : FnOk l.prog w K mg base CX0 2 f23 _ ["_law_pool_here", "_law_some"] ((spPick K)) := ok_l_pick F_l_pick T.toBlt F_l_draw b_l_draw g_l_draw G_l_draw
  have G_l_closing : FnOk l.prog w K mg base CX0 2 f24 _ ["_law_pool_here", "_law_under", "_law_locked", "_law_lets", "_law_leak"] ((spClosing K)) := ok_l_closing F_l_closing T.toBlt F_l_draw b_l_draw g_l_draw G_l_draw
  have G_l_way_out : FnOk l.prog w K mg base CX0 3 f25 _ ["_law_pool_here", "_law_under", "_law_locked", "_law_lets"] ((spWayOut K)) := ok_l_way_out F_l_way_out T.toBlt F_l_draw b_l_draw g_l_draw G_l_draw F_l_closing b_l_closing g_l_closing G_l_closing
  have G_l_body : FnOk l.prog w K mg base CX0 4 f26 _ ["_law_pool_here", "_law_names", "_law_room", "_law_lets"] ((spBody K)) := ok_l_body F_l_body T.toBlt F_l_draw b_l_draw g_l_draw G_l_draw F_l_pick b_l_pick g_l_pick G_l_pick F_l_way_out b_l_way_out g_l_way_out G_l_way_out F_l_closing b_l_closing g_l_closing G_l_closing
  have G_l_hand : FnOk l.prog w K mg base CX0 5 f27 _ ["_law_pool_here", "_law_names"] ((spHand K)) := ok_l_hand F_l_hand T.toBlt F_l_pick b_l_pick g_l_pick G_l_pick F_l_body b_l_body g_l_body G_l_body
  have G_l_work : FnOk l.prog w K mg base CX0 5 f28 _ ["_law_pool_here", "_law_names"] ((spWork K)) := ok_l_work F_l_work T.toBlt F_l_draw b_l_draw g_l_draw G_l_draw F_l_body b_l_body g_l_body G_l_body
  have G_l_flags : FnOk l.prog w K mg base CX0 1 f29 _ ["_law_flags_here", "_law_item"] ((spFlags K)) := ok_l_flags F_l_flags T
  have G_l_has_out : FnOk l.prog w K mg base CX0 2 f30 _ ["_law_item"] ((spChk K hasOut)) := ok_l_has_out F_l_has_out T F_is_name b_is_name g_is_name G_is_name
  have G_l_numbered : FnOk l.prog w K mg base CX0 3 f31 _ ["_law_items"] ((spNumB K)) := ok_l_numbered F_l_numbered T F_l_has_out b_l_has_out g_l_has_out G_l_has_out
  have G_l_form_wrong : FnOk l.prog w K mg base CX0 7 f32 _ ["_law_items"] ((spForm K)) := ok_l_form_wrong F_l_form_wrong T F_is_item b_is_item g_is_item G_is_item F_l_has_out b_l_has_out g_l_has_out G_l_has_out F_l_numbered b_l_numbered g_l_numbered G_l_numbered
  have G_l_opening : FnOk l.prog w K mg base CX0 1 f33 _ ["_law_items"] ((spOpL K)) := ok_l_opening F_l_opening T
  have G_l_step_wrong : FnOk l.prog w K mg base CX0 1 f34 _ ["_law_item", "_law_flags_here", "_law_is_last"] ((spStep K)) := ok_l_step_wrong F_l_step_wrong T
  have G_l_rule_wrong : FnOk l.prog w K mg base CX0 2 f35 _ ["_law_items", "_law_opening_here"] ((spRule K)) := ok_l_rule_wrong F_l_rule_wrong T hsrt F_l_step_wrong b_l_step_wrong g_l_step_wrong G_l_step_wrong F_l_flags b_l_flags g_l_flags G_l_flags
  have G_l_due : FnOk l.prog w K mg base CX0 8 f36 _ ["_law_items", "_law_is_hand"] ((spDue K)) := ok_l_due F_l_due T F_l_form_wrong b_l_form_wrong g_l_form_wrong G_l_form_wrong F_l_opening b_l_opening g_l_opening G_l_opening F_l_rule_wrong b_l_rule_wrong g_l_rule_wrong G_l_rule_wrong
  have G_l_heard : FnOk l.prog w K mg base CX0 11 f37 _ ["_law_items", "_law_is_hand"] ((spHeard K)) := ok_l_heard F_l_heard T TS CTh RDCH SM_hr_of R_hr_of PP_hr_parts b_hr_parts G_hr_parts CTw RDCW SM_wr_of R_wr_of PP_wr_parts b_wr_parts G_wr_parts
  have G_l_bent : FnOk l.prog w K mg base CX0 3 f38 _ ["_law_pool_here", "_law_items"] ((spBent K)) := ok_l_bent F_l_bent T F_l_draw b_l_draw g_l_draw G_l_draw F_l_pick b_l_pick g_l_pick G_l_pick
  exact ok_l_law F_law T F_l_pool b_l_pool g_l_pool G_l_pool F_l_draw b_l_draw g_l_draw G_l_draw F_l_hand b_l_hand g_l_hand G_l_hand F_l_work b_l_work g_l_work G_l_work F_l_bent b_l_bent g_l_bent G_l_bent F_l_heard b_l_heard g_l_heard G_l_heard F_l_due b_l_due g_l_due G_l_due
theorem walk {l : PySem.W.OpenLaw} {q : Program} {loose : List Str} {XP : (Str → Option Value) → Heap → Prop} {YP : World → Heap → Prop} {d : DefRec} {K : Params → PySem.W.Frag} (hn : l.most = some 63) (hdf : d.params.defaults = [])
    (hY : ∀ (w : World) (h : Heap), YP w h → (K w.params).In h)
    (F : ∀ (w : World) (mg : Str → Option Value) (fa : Addr) (h : Heap), (K w.params).In h → h.Ns mainGlobals mg → mg d.name = some (.ref fa) →
      ∃ fd : FuncData, (∀ (s : Shared) (u : Value), BindsTo s fd ⟨[u], []⟩ [("_law_script", u)]) ∧ ∀ base : Heap, (K w.params).In base → base.Ns mainGlobals mg → FnOk l.prog w (K w.params) mg base CX0 12 fa fd ["_law_script"] (spLaw (K w.params))) :
    PySem.W.WalkO q loose XP YP l.row.toRowW d [] (fun f vs => PySem.call f vs) :=
  L2.walk_of (n := 63) (k := 12) (x := "_law_script") (CX := fun _ => CX0) (sp := fun w => spLaw (K w.params)) hn (by decide) hdf ⟨rfl, by decide, by decide⟩ hY F (fun _ _ a ns hl _ hS => ⟨a, ns, rfl, hS, hl, fun _ => rfl⟩) fun _ _ _ _ _ z => z
end K05

open PySem PySem.W PyProof.Rows in
set_option maxRecDepth 100000 in
set_option maxHeartbeats 0 in
theorem PySem.Challenge.cw_pulledout_k05_rows_refused_holds : PySem.Challenge.rw_pulledout_k05_rows_refused.Holds := by
  w_on; o_law; k_head; (case hw => w_witness2)
  k_fill
  refine K05.walk (l := PySem.Challenge.rw_pulledout_k05_rows_refused) rfl rfl (fun w h Y => PySem.W.kIn_of Y) ?F
  case F =>
    intro w mg fa h KX G hmg
    refine' K05.all_mk KX G hmg ?y_lt0 ?y_lt1 ?y_lt2 ?y_lt4 ?z_max ?z_range ?z_len ?z_int ?z_bool ?z_isinstance ?z_str ?z_all ?z_any ?z_tuple ?z_list ?z_enumerate ?z_repr ?z_min ?z_dict ?z_sorted ?y_t0 ?x_t0 ?v_t0 ?y_t1 ?x_t1 ?v_t1 ?y_t2 ?x_t2 ?v_t2 ?y_t3 ?x_t3 ?v_t3 ?y_t7 ?x_t7 ?v_t7 ?y_t8 ?x_t8 ?v_t8 ?y_tF ?x_tF ?v_tF ?y_tO ?x_tO ?v_tO ?x_o0 ?v_o0 ?x_o1 ?v_o1 ?x_o2 ?v_o2 ?x_o3 ?v_o3 ?x_o4 ?v_o4 ?x_o5 ?v_o5 ?y_dC ?x_dC ?q_dC ?u_dC ?lo_dC ?x_h0 ?v_h0 ?x_h1 ?v_h1 ?x_h2 ?v_h2 ?x_h3 ?v_h3 ?x_h4 ?v_h4 ?x_h5 ?v_h5 ?x_h6 ?v_h6 ?aS ?xS ?saS ?exS ?tyS ?kpS ?noS ?gaS ?ggS ?hdS ?iiS ?tiS ?icS ?ssS ?aCL ?pgCL ?hdCL ?poCL ?saCL ?nCLplaced ?nCLend ?nCLleads ?nCLstandings ?mkCL ?kpCL ?aCH ?pgCH ?hdCH ?poCH ?saCH ?nCH_parts ?nCHlayout ?nCH_opening ?mkCH ?kpCH ?rdCH ?gtCH ?b1sCHof ?b2sCHof ?b1pCHparts ?b2pCHparts ?b3pCHparts ?b4pCHparts ?aCW ?pgCW ?hdCW ?poCW ?saCW ?nCW_parts ?nCWlayout ?nCW_opening ?mkCW ?kpCW ?rdCW ?gtCW ?b1sCWof ?b2sCWof ?b1pCWparts ?b2pCWparts ?b3pCWparts ?b4pCWparts ?a1 ?l1 ?c1 ?k1 ?a2 ?l2 ?c2 ?k2 ?a3 ?l3 ?c3 ?k3 ?a4 ?l4 ?c4 ?k4 ?a5 ?l5 ?c5 ?k5 ?a6 ?l6 ?c6 ?k6 ?a7 ?l7 ?c7 ?k7 ?a8 ?l8 ?c8 ?k8 ?a9 ?l9 ?c9 ?k9 ?a10 ?l10 ?c10 ?k10 ?a11 ?l11 ?c11 ?k11 ?a12 ?l12 ?c12 ?k12 ?a13 ?l13 ?c13 ?k13 ?a14 ?l14 ?c14 ?k14 ?a15 ?l15 ?c15 ?k15 ?a16 ?l16 ?c16 ?k16 ?a17 ?l17 ?c17 ?k17 ?a18 ?l18 ?c18 ?k18 ?a19 ?l19 ?c19 ?k19 ?a20 ?l20 ?c20 ?k20 ?a21 ?l21 ?c21 ?k21 ?a22 ?l22 ?c22 ?k22 ?a23 ?l23 ?c23 ?k23 ?a24 ?l24 ?c24 ?k24 ?a25 ?l25 ?c25 ?k25 ?a26 ?l26 ?c26 ?k26 ?a27 ?l27 ?c27 ?k27 ?a28 ?l28 ?c28 ?k28 ?a29 ?l29 ?c29 ?k29 ?a30 ?l30 ?c30 ?k30 ?a31 ?l31 ?c31 ?k31 ?a32 ?l32 ?c32 ?k32 ?a33 ?l33 ?c33 ?k33 ?a34 ?l34 ?c34 ?k34 ?a35 ?l35 ?c35 ?k35 ?a36 ?l36 ?c36 ?k36 ?a37 ?l37 ?c37 ?k37 ?a38 ?l38 ?c38 ?k38 ?a39 ?l39 ?c39 ?k39 ?l40 ?c40 ?k40 ?a41 ?i41 ?fn41 ?l41 ?c41 ?k41 ?a42 ?i42 ?fn42 ?l42 ?c42 ?k42 ?l43 ?c43 ?k43 ?l44 ?c44 ?k44 ?a45 ?i45 ?fn45 ?l45 ?c45 ?k45 ?l46 ?c46 ?k46 ?l47 ?c47 ?k47
    (case y_lt0 => k_is)
    (case y_lt1 => k_is)
    (case y_lt2 => k_is)
    (case y_lt4 => k_is)
    (case z_max => k_is)
    (case z_range => k_is)
    (case z_len => k_is)
    (case z_int => k_is)
    (case z_bool => k_is)
    (case z_isinstance => k_is)
    (case z_str => k_is)
    (case z_all => k_is)
    (case z_any => k_is)
    (case z_tuple => k_is)
    (case z_list => k_is)
    (case z_enumerate => k_is)
    (case z_repr => k_is)
    (case z_min => k_is)
    (case z_dict => k_is)
    (case z_sorted => k_is)
    (case y_t0 => k_is)
    (case x_t0 => k_is)
    (case v_t0 => rfl)
    (case y_t1 => k_is)
    (case x_t1 => k_is)
    (case v_t1 => rfl)
    (case y_t2 => k_is)
    (case x_t2 => k_is)
    (case v_t2 => rfl)
    (case y_t3 => k_is)
    (case x_t3 => k_is)
    (case v_t3 => rfl)
    (case y_t7 => k_is)
    (case x_t7 => k_is)
    (case v_t7 => rfl)
    (case y_t8 => k_is)
    (case x_t8 => k_is)
    (case v_t8 => rfl)
    (case y_tF => k_is)
    (case x_tF => k_is)
    (case v_tF => rfl)
    (case y_tO => k_is)
    (case x_tO => k_is)
    (case v_tO => rfl)
    (case x_o0 => k_is)
    (case v_o0 => rfl)
    (case x_o1 => k_is)
    (case v_o1 => rfl)
    (case x_o2 => k_is)
    (case v_o2 => rfl)
    (case x_o3 => k_is)
    (case v_o3 => rfl)
    (case x_o4 => k_is)
    (case v_o4 => rfl)
    (case x_o5 => k_is)
    (case v_o5 => rfl)
    (case y_dC => k_is)
    (case x_dC => k_is)
    (case q_dC => rfl)
    (case u_dC => rfl)
    (case lo_dC => rfl)
    (case x_h0 => k_is)
    (case v_h0 => rfl)
    (case x_h1 => k_is)
    (case v_h1 => rfl)
    (case x_h2 => k_is)
    (case v_h2 => rfl)
    (case x_h3 => k_is)
    (case v_h3 => rfl)
    (case x_h4 => k_is)
    (case v_h4 => rfl)
    (case x_h5 => k_is)
    (case v_h5 => rfl)
    (case x_h6 => k_is)
    (case v_h6 => rfl)
    (case aS => k_is)
    (case xS => k_is)
    (case saS => k_is)
    (case exS => k_is)
    (case tyS => k_is)
    (case kpS => k_is)
    (case noS => k_is)
    (case gaS => k_is)
    (case ggS => k_is)
    (case hdS => k_is)
    (case iiS => k_is)
    (case tiS => k_is)
    (case icS => k_is)
    (case ssS => first | rfl | k_is)
    (case aCL => k_is)
    (case pgCL => k_is)
    (case hdCL => k_is)
    (case poCL => k_is)
    (case saCL => k_is)
    (case nCLplaced => k_is)
    (case nCLend => k_is)
    (case nCLleads => k_is)
    (case nCLstandings => k_is)
    (case mkCL => k_is)
    (case kpCL => k_is)
    (case aCH => k_is)
    (case pgCH => k_is)
    (case hdCH => k_is)
    (case poCH => k_is)
    (case saCH => k_is)
    (case nCH_parts => k_is)
    (case nCHlayout => k_is)
    (case nCH_opening => k_is)
    (case mkCH => k_is)
    (case kpCH => k_is)
    (case rdCH => k_is)
    (case gtCH => k_is)
    (case b1sCHof => k_is)
    (case b2sCHof => k_is)
    (case b1pCHparts => k_is)
    (case b2pCHparts => k_is)
    (case b3pCHparts => k_is)
    (case b4pCHparts => k_is)
    (case aCW => k_is)
    (case pgCW => k_is)
    (case hdCW => k_is)
    (case poCW => k_is)
    (case saCW => k_is)
    (case nCW_parts => k_is)
    (case nCWlayout => k_is)
    (case nCW_opening => k_is)
    (case mkCW => k_is)
    (case kpCW => k_is)
    (case rdCW => k_is)
    (case gtCW => k_is)
    (case b1sCWof => k_is)
    (case b2sCWof => k_is)
    (case b1pCWparts => k_is)
    (case b2pCWparts => k_is)
    (case b3pCWparts => k_is)
    (case b4pCWparts => k_is)
    (case a1 => k_is)
    (case l1 => k_is)
    (case c1 => k_is)
    (case k1 => k_is)
    (case a2 => k_is)
    (case l2 => k_is)
    (case c2 => k_is)
    (case k2 => k_is)
    (case a3 => k_is)
    (case l3 => k_is)
    (case c3 => k_is)
    (case k3 => k_is)
    (case a4 => k_is)
    (case l4 => k_is)
    (case c4 => k_is)
    (case k4 => k_is)
    (case a5 => k_is)
    (case l5 => k_is)
    (case c5 => k_is)
    (case k5 => k_is)
    (case a6 => k_is)
    (case l6 => k_is)
    (case c6 => k_is)
    (case k6 => k_is)
    (case a7 => k_is)
    (case l7 => k_is)
    (case c7 => k_is)
    (case k7 => k_is)
    (case a8 => k_is)
    (case l8 => k_is)
    (case c8 => k_is)
    (case k8 => k_is)
    (case a9 => k_is)
    (case l9 => k_is)
    (case c9 => k_is)
    (case k9 => k_is)
    (case a10 => k_is)
    (case l10 => k_is)
    (case c10 => k_is)
    (case k10 => k_is)
    (case a11 => k_is)
    (case l11 => k_is)
    (case c11 => k_is)
    (case k11 => k_is)
    (case a12 => k_is)
    (case l12 => k_is)
    (case c12 => k_is)
    (case k12 => k_is)
    (case a13 => k_is)
    (case l13 => k_is)
    (case c13 => k_is)
    (case k13 => k_is)
    (case a14 => k_is)
    (case l14 => k_is)
    (case c14 => k_is)
    (case k14 => k_is)
    (case a15 => k_is)
    (case l15 => k_is)
    (case c15 => k_is)
    (case k15 => k_is)
    (case a16 => k_is)
    (case l16 => k_is)
    (case c16 => k_is)
    (case k16 => k_is)
    (case a17 => k_is)
    (case l17 => k_is)
    (case c17 => k_is)
    (case k17 => k_is)
    (case a18 => k_is)
    (case l18 => k_is)
    (case c18 => k_is)
    (case k18 => k_is)
    (case a19 => k_is)
    (case l19 => k_is)
    (case c19 => k_is)
    (case k19 => k_is)
    (case a20 => k_is)
    (case l20 => k_is)
    (case c20 => k_is)
    (case k20 => k_is)
    (case a21 => k_is)
    (case l21 => k_is)
    (case c21 => k_is)
    (case k21 => k_is)
    (case a22 => k_is)
    (case l22 => k_is)
    (case c22 => k_is)
    (case k22 => k_is)
    (case a23 => k_is)
    (case l23 => k_is)
    (case c23 => k_is)
    (case k23 => k_is)
    (case a24 => k_is)
    (case l24 => k_is)
    (case c24 => k_is)
    (case k24 => k_is)
    (case a25 => k_is)
    (case l25 => k_is)
    (case c25 => k_is)
    (case k25 => k_is)
    (case a26 => k_is)
    (case l26 => k_is)
    (case c26 => k_is)
    (case k26 => k_is)
    (case a27 => k_is)
    (case l27 => k_is)
    (case c27 => k_is)
    (case k27 => k_is)
    (case a28 => k_is)
    (case l28 => k_is)
    (case c28 => k_is)
    (case k28 => k_is)
    (case a29 => k_is)
    (case l29 => k_is)
    (case c29 => k_is)
    (case k29 => k_is)
    (case a30 => k_is)
    (case l30 => k_is)
    (case c30 => k_is)
    (case k30 => k_is)
    (case a31 => k_is)
    (case l31 => k_is)
    (case c31 => k_is)
    (case k31 => k_is)
    (case a32 => k_is)
    (case l32 => k_is)
    (case c32 => k_is)
    (case k32 => k_is)
    (case a33 => k_is)
    (case l33 => k_is)
    (case c33 => k_is)
    (case k33 => k_is)
    (case a34 => k_is)
    (case l34 => k_is)
    (case c34 => k_is)
    (case k34 => k_is)
    (case a35 => k_is)
    (case l35 => k_is)
    (case c35 => k_is)
    (case k35 => k_is)
    (case a36 => k_is)
    (case l36 => k_is)
    (case c36 => k_is)
    (case k36 => k_is)
    (case a37 => k_is)
    (case l37 => k_is)
    (case c37 => k_is)
    (case k37 => k_is)
    (case a38 => k_is)
    (case l38 => k_is)
    (case c38 => k_is)
    (case k38 => k_is)
    (case a39 => k_is)
    (case l39 => k_is)
    (case c39 => k_is)
    (case k39 => k_is)
    (case l40 => k_is)
    (case c40 => k_is)
    (case k40 => k_is)
    (case a41 => k_is)
    (case i41 => k_is)
    (case fn41 => k_is)
    (case l41 => k_is)
    (case c41 => k_is)
    (case k41 => k_is)
    (case a42 => k_is)
    (case i42 => k_is)
    (case fn42 => k_is)
    (case l42 => k_is)
    (case c42 => k_is)
    (case k42 => k_is)
    (case l43 => k_is)
    (case c43 => k_is)
    (case k43 => k_is)
    (case l44 => k_is)
    (case c44 => k_is)
    (case k44 => k_is)
    (case a45 => k_is)
    (case i45 => k_is)
    (case fn45 => k_is)
    (case l45 => k_is)
    (case c45 => k_is)
    (case k45 => k_is)
    (case l46 => k_is)
    (case c46 => k_is)
    (case k46 => k_is)
    (case l47 => k_is)
    (case c47 => k_is)
    (case k47 => k_is)

