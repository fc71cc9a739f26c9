import PyProof.Rows.All
import Wide.All
import OpenK.AllK
import Wide.FinOn
import HandS.Base
import HandS.Call
import HandS.List
import HandS.Comp
import HandS.Ends
import HandS.Dict
import HandS.Iter
import HandS.Text
import HandS.Words
import HandS.IsInst
import HandS.Style
import HandS.Walk
import HandS.TupAny
import HandS.More
import HandS.Exc
import HandS.ExcOwn
import HandS.ExcInit
import HandS.ExcField
import HandS.WordsExc
import HandS.Slots
import HandS.Star
import HandS.ClsMeth
import HandS.Property
import HandS.Deep
import HandS.Strs
import HandS.RaiseMore
import HandS.CallSlots
import KE.GoesMore
import PyProof.InstNe
import KE.DataFind
import HandS.OwnIter
import HandS.IterNext
import KE.KExcInit
import KE.KExcIs
import HandS.ExcIs
import HandS.HeadHook3
import PySem.Challenge.RW_pulledout_k12_runs_as_values
set_option Elab.async false
set_option linter.all false
set_option maxRecDepth 100000
set_option maxHeartbeats 4000000
/-! What holds of no program alone: heaps, data at a value, a pool that is drawn from. -/
namespace GG
open PySem PySem.Spec PyProof.Rows L2 TL
theorem same_upd {H : Hp} {p : Addr} {o : HO} (h : H p = none) : Same H (upd H p o) := fun b x e => by
  rw [upd_ne (ne_of_none e h)]
  exact e
/-- behind a store into a new object all that stood before stands -/
theorem same_st {H H1 : Hp} {p : Addr} {o : HO} (s : Same H H1) (h : H p = none) : Same H (upd H1 p o) := fun b x e => by
  rw [upd_ne (ne_of_none e h)]
  exact s b x e
/-- each number lies below its size -/
def Below (zs ns : List Int) : Prop := ∀ (i : Nat) (z n : Int), zs[i]? = some z → ns[i]? = some n → 0 ≤ n ∧ n < z
theorem below_snoc {zs ns : List Int} {z n : Int} (h : Below zs ns) (hz : zs[ns.length]? = some z) (h0 : 0 ≤ n) (h1 : n < z) : Below zs (ns ++ [n]) := by
  intro i y m hy hm
  by_cases hi : i < ns.length
  · rw [List.getElem?_append_left hi] at hm
    exact h i y m hy hm
  · rw [List.getElem?_append_right (by omega)] at hm
    have e : i - ns.length = 0 := by
      have q := (List.getElem?_eq_some_iff.mp hm).1
      simp at q
      omega
    have ei : i = ns.length := by omega
    subst ei
    rw [e] at hm
    have em : n = m := Option.some.inj hm
    have ey : z = y := Option.some.inj (hz.symm.trans hy)
    subst em ey
    exact ⟨h0, h1⟩
theorem small_mod (x : Int) : (x % 2147483629).natAbs < 2 ^ 64 := by
  have h1 := Int.emod_nonneg x (show (2147483629 : Int) ≠ 0 by decide)
  have h2 := Int.emod_lt_of_pos x (show (0 : Int) < 2147483629 by decide)
  omega
/-! ### data -/
def tyName : PyData → String
  | .none => "NoneType"
  | .bool _ => "bool"
  | .int _ => "int"
  | .str _ => "str"
  | .list _ => "list"
  | .tuple _ => "tuple"
  | .dict _ => "dict"
def isTup : PyData → Bool
  | .tuple _ => true
  | _ => false
def isStr : PyData → Bool
  | .str _ => true
  | _ => false
theorem isi_tup {K : PySem.W.Frag} (d : PyData) : PySem.W.kitOne K (.type (tyName d)) (.type "tuple") = some (isTup d) := by
  cases d
  · exact kit_ty (show kitB "NoneType" "tuple" = some false by decide +kernel)
  · exact kit_ty (show kitB "bool" "tuple" = some false by decide +kernel)
  · exact kit_ty (show kitB "int" "tuple" = some false by decide +kernel)
  · exact kit_ty (show kitB "str" "tuple" = some false by decide +kernel)
  · exact kit_ty (show kitB "list" "tuple" = some false by decide +kernel)
  · exact kit_ty (show kitB "tuple" "tuple" = some true by decide +kernel)
  · exact kit_ty (show kitB "dict" "tuple" = some false by decide +kernel)
theorem isi_str {K : PySem.W.Frag} (d : PyData) : PySem.W.kitOne K (.type (tyName d)) (.type "str") = some (isStr d) := by
  cases d
  · exact kit_ty (show kitB "NoneType" "str" = some false by decide +kernel)
  · exact kit_ty (show kitB "bool" "str" = some false by decide +kernel)
  · exact kit_ty (show kitB "int" "str" = some false by decide +kernel)
  · exact kit_ty (show kitB "str" "str" = some true by decide +kernel)
  · exact kit_ty (show kitB "list" "str" = some false by decide +kernel)
  · exact kit_ty (show kitB "tuple" "str" = some false by decide +kernel)
  · exact kit_ty (show kitB "dict" "str" = some false by decide +kernel)
theorem Rd.same {H H' : Hp} {a : Addr} {o : HO} (s : Same H H') (h : Rd H a o) : Rd H' a o := by
  rcases h with h | ⟨u, h⟩
  · exact .inl (s _ _ h)
  · exact .inr ⟨u, s _ _ h⟩
theorem Same.seqT {K : PySem.W.Frag} {H H' : Hp} {a : Addr} {xs : List V} (e : Same H H') (h : SqT K H a xs) : SqT K H' a xs := by
  rcases h with h | h
  · exact .inl (Rd.same e h)
  · exact .inr h
mutual
theorem dp_same {K : PySem.W.Frag} {H H' : Hp} (e : Same H H') : ∀ (d : PyData) (v : V), Dp K H v d → Dp K H' v d
  | .none, _, h => by cases h; exact .non
  | .bool b, _, h => by cases h; exact .bl b
  | .int i, _, h => by cases h; exact .int i
  | .str x, _, h => by cases h; exact .str x
  | .list ds, _, h => by
    cases h with
    | lst hs ha => exact .lst (Same.seq e hs) (dpAll_same e ds _ ha)
  | .tuple ds, _, h => by
    cases h with
    | tup hs ha => exact .tup (Same.seqT e hs) (dpAll_same e ds _ ha)
  | .dict _, _, h => by cases h
theorem dpAll_same {K : PySem.W.Frag} {H H' : Hp} (e : Same H H') : ∀ (ds : List PyData) (vs : List V), DpAll K H vs ds → DpAll K H' vs ds
  | [], _, h => by cases h; exact .nil
  | d :: ds, _, h => by
    cases h with
    | cons h1 h2 => exact .cons (dp_same e d _ h1) (dpAll_same e ds _ h2)
end
theorem dpAll_len {K : PySem.W.Frag} {H : Hp} : ∀ {vs : List V} {ds : List PyData}, DpAll K H vs ds → vs.length = ds.length
  | _, _, .nil => rfl
  | _, _, .cons _ h => by rw [List.length_cons, List.length_cons, dpAll_len h]
theorem dpAll_get {K : PySem.W.Frag} {H : Hp} : ∀ {vs : List V} {ds : List PyData} {i : Nat} {v : V}, DpAll K H vs ds → vs[i]? = some v → ∃ d, ds[i]? = some d ∧ Dp K H v d
  | _, _, 0, _, .cons (d := d) h _, e => by
    have e : _ = _ := Option.some.inj e
    subst e
    exact ⟨d, rfl, h⟩
  | _, _, i + 1, _, .cons _ h, e => dpAll_get (i := i) h e
theorem dp_ty {K : PySem.W.Frag} {H : Hp} {v : V} {d : PyData} (h : Dp K H v d) : TyX K H v (.type (tyName d)) := by
  cases h with
  | non => exact .base .non
  | bl b => exact .base (.bl b)
  | int i => exact .base (.int i)
  | str x => exact .base (.str x)
  | lst hs _ =>
    rcases hs with (h | ⟨o, h⟩) | ⟨o, its, n, h1, h2, _⟩
    · exact .base (.lst h)
    · exact .base (.frz h)
    · exact .kList h1 h2
  | tup hs _ =>
    rcases hs with (h | ⟨o, h⟩) | ⟨o, its, n, h1, h2, _⟩
    · exact .base (.tup h)
    · exact .fTuple h
    · exact .kTuple h1 h2
mutual
/-- sane texts, nothing long -/
def okD : PyData → Bool
  | .str z => decide (z.length ≤ 1000) && z.cps.all (· < 0x110000)
  | .list ds | .tuple ds => decide (ds.length ≤ 1000) && okAll ds
  | .dict _ => false
  | _ => true
def okAll : List PyData → Bool
  | [] => true
  | d :: ds => okD d && okAll ds
end
mutual
theorem can_ok : ∀ d : PyData, okD d = true → PyData.canLay0 d = true
  | .none, _ => rfl
  | .bool _, _ => rfl
  | .int _, _ => rfl
  | .str z, h => (Bool.and_eq_true_iff.mp h).2
  | .list ds, h => canAll_ok ds (Bool.and_eq_true_iff.mp h).2
  | .tuple ds, h => canAll_ok ds (Bool.and_eq_true_iff.mp h).2
theorem canAll_ok : ∀ ds : List PyData, okAll ds = true → PyData.canLayAll0 ds = true
  | [], _ => rfl
  | d :: ds, h => by
    have h := Bool.and_eq_true_iff.mp h
    show (PyData.canLay0 d && PyData.canLayAll0 ds) = true
    rw [can_ok d h.1, canAll_ok ds h.2]
    rfl
end
theorem okAll_iff {ds : List PyData} : okAll ds = true ↔ ∀ d ∈ ds, okD d = true := by
  induction ds with
  | nil => simp [okAll]
  | cons d r ih => simp [okAll, ih]
theorem depthAll_le {ds : List PyData} {n : Nat} : PyData.depthAll ds ≤ n ↔ ∀ d ∈ ds, PyData.depth d ≤ n := by
  induction ds with
  | nil => simp [PyData.depthAll]
  | cons d r ih => simp [PyData.depthAll, ih, Nat.max_le]
def Good (n : Nat) (d : PyData) : Prop := okD d = true ∧ PyData.depth d ≤ n
theorem Good.lay {n : Nat} {d : PyData} (h : Good n d) (hn : n ≤ 64) : SeqAt.shaped d = true := by
  unfold SeqAt.shaped
  rw [Bool.and_eq_true, decide_eq_true_eq]
  exact ⟨can_ok d h.1, Nat.le_trans h.2 hn⟩
theorem Good.tup {n : Nat} {ds : List PyData} : Good (n + 1) (.tuple ds) ↔ ds.length ≤ 1000 ∧ ∀ d ∈ ds, Good n d := by
  unfold Good
  show (decide (ds.length ≤ 1000) && okAll ds) = true ∧ PyData.depthAll ds + 1 ≤ n + 1 ↔ _
  rw [Bool.and_eq_true, decide_eq_true_eq, okAll_iff, Nat.add_le_add_iff_right, depthAll_le]
  exact ⟨fun h => ⟨h.1.1, fun d hd => ⟨h.1.2 d hd, h.2 d hd⟩⟩, fun h => ⟨⟨h.1, fun d hd => (h.2 d hd).1⟩, fun d hd => (h.2 d hd).2⟩⟩
theorem Good.lst {n : Nat} {ds : List PyData} : Good (n + 1) (.list ds) ↔ ds.length ≤ 1000 ∧ ∀ d ∈ ds, Good n d := Good.tup
theorem Good.mono {n m : Nat} {d : PyData} (h : Good n d) (k : n ≤ m) : Good m d := ⟨h.1, Nat.le_trans h.2 k⟩
/-- a value that stands for the data d; or any dict -/
def Val (K : PySem.W.Frag) (H : Hp) (x : V) (d : PyData) : Prop := (Dp K H x d ∧ Good 60 d) ∨ (d = .dict [] ∧ ∃ (a : Addr) (kvs : List (Key × V)), x = .ref a ∧ H a = some (.dK kvs))
theorem Val.ty {K : PySem.W.Frag} {H : Hp} {x : V} {d : PyData} (h : Val K H x d) : TyX K H x (.type (tyName d)) := by
  rcases h with h | ⟨rfl, a, kvs, rfl, h⟩
  · exact dp_ty h.1
  · exact .base (.dK h)
theorem Val.str {K : PySem.W.Frag} {H : Hp} {x : V} {z : Str} (h : Val K H x (.str z)) : x = .str z ∧ z.length ≤ 1000 ∧ (∀ c ∈ z.cps.toList, c < 1114112) := by
  rcases h with ⟨h, g⟩ | ⟨h, _⟩
  · cases h
    obtain ⟨h1, h2⟩ := Bool.and_eq_true_iff.mp g.1
    refine ⟨rfl, of_decide_eq_true h1, fun c hc => ?_⟩
    rw [← Array.all_toList, List.all_eq_true] at h2
    exact of_decide_eq_true (h2 c hc)
  · cases h
theorem Val.tup {K : PySem.W.Frag} {H : Hp} {x : V} {ds : List PyData} (h : Val K H x (.tuple ds)) : ∃ (a : Addr) (xs : List V), x = .ref a ∧ SqT K H a xs ∧ DpAll K H xs ds ∧ xs.length = ds.length ∧ ds.length ≤ 1000 ∧ ∀ (i : Nat) (d : PyData), ds[i]? = some d → ∃ v, xs[i]? = some v ∧ Val K H v d := by
  rcases h with ⟨h, g⟩ | ⟨h, _⟩
  · cases h with
    | @tup a xs _ hs ha =>
      obtain ⟨g1, g2⟩ := (Good.tup (n := 59)).mp g
      have hl := dpAll_len ha
      refine ⟨_, _, rfl, hs, ha, hl, g1, fun i d hd => ?_⟩
      have hi : i < ds.length := (List.getElem?_eq_some_iff.mp hd).1
      have hi2 : i < xs.length := by omega
      obtain ⟨d', hd', hp⟩ := dpAll_get ha (List.getElem?_eq_getElem hi2)
      have e : d' = d := Option.some.inj (hd'.symm.trans hd)
      subst e
      exact ⟨_, List.getElem?_eq_getElem hi2, .inl ⟨hp, (g2 d' (List.mem_of_getElem? hd)).mono (by decide)⟩⟩
  · cases h
theorem Val.same {K : PySem.W.Frag} {H H' : Hp} {x : V} {d : PyData} (h : Val K H x d) (s : Same H H') : Val K H' x d := by
  rcases h with ⟨h, g⟩ | ⟨rfl, a, kvs, rfl, h⟩
  · exact .inl ⟨dp_same s d x h, g⟩
  · exact .inr ⟨rfl, a, kvs, rfl, s _ _ h⟩
theorem inV_words {z : Str} : ∀ ws : List Str, inV (.str z) (ws.map V.str) = ws.any (· == z) := fun ws => by
  unfold inV
  rw [List.any_map]
  rfl
theorem flat_words : ∀ ws : List Str, (ws.map V.str).all flatV = true := fun ws => by
  rw [List.all_map, List.all_eq_true]
  intro x _
  rfl
theorem yes_then {A B : Hp → Prop} {σ : L2.St} {H : Hp} (h : A H) : tYes σ H (fun b H3 => if b = true then A H3 else B H3) := by
  show (if true = true then A H else B H)
  rw [if_pos rfl]
  exact h
def letB (c : Nat) : Bool := !decide ([c] < [97]) && !decide ([122] < [c])
/-! ### the mathematics of the texts -/
/-- the 26 letters, as the law writes them -/
abbrev abcS : Str := "abcdefghijklmnopqrstuvwxyz"
theorem abc_list : abcS.cps.toList = (List.range 26).map (97 + ·) := by decide +kernel
theorem abc_mem (c : Nat) : c ∈ abcS.cps.toList ↔ 97 ≤ c ∧ c ≤ 122 := by
  rw [abc_list]
  simp only [List.mem_map, List.mem_range]
  constructor
  · rintro ⟨a, h, rfl⟩
    omega
  · intro h
    exact ⟨c - 97, by omega, by omega⟩
theorem one_lt (a b : Nat) : ([a] < [b]) ↔ a < b := by
  simp [List.cons_lt_cons_iff]
theorem letB_abc (c : Nat) : letB c = decide (c ∈ abcS.cps.toList) := by
  unfold letB
  rw [Bool.eq_iff_iff]
  simp only [Bool.and_eq_true, Bool.not_eq_true', decide_eq_false_iff_not, decide_eq_true_eq, one_lt, abc_mem]
  omega
/-- a text of Python's own signs -/
def Sane (z : Str) : Prop := ∀ c ∈ z.cps.toList, c < 1114112
theorem sane_odds {z : Str} (h : Sane z) : ∀ y ∈ (z.cps.toList.filter fun c => !decide (c ∈ abcS.cps.toList)).map (fun c => (⟨#[c]⟩ : Str)), Sane y := by
  intro y hy c hc
  obtain ⟨d, hd, rfl⟩ := List.mem_map.mp hy
  have e : c = d := by simpa using hc
  rw [e]
  exact h d ((List.mem_filter.mp hd).1)
def oddC (c : Nat) : Bool := !decide (c ∈ abcS.cps.toList)
def odds (cs : List Nat) : List Str := (cs.filter oddC).map fun c => ⟨#[c]⟩
theorem odds_snoc {cs : List Nat} {i c : Nat} (hc : cs[i]? = some c) : odds (cs.take (i + 1)) = odds (cs.take i) ++ (if oddC c = true then [⟨#[c]⟩] else []) := by
  unfold odds
  rw [List.take_add_one, hc, List.filter_append, List.map_append]
  congr 1
  show List.map _ (List.filter oddC [c]) = _
  cases h : oddC c <;> simp [h]
theorem odds_len (cs : List Nat) : (odds cs).length ≤ cs.length := by
  unfold odds
  rw [List.length_map]
  exact List.length_filter_le ..
theorem odds_nil (cs : List Nat) : (odds cs).isEmpty = cs.all letB := by
  unfold odds
  rw [List.isEmpty_map]
  induction cs with
  | nil => rfl
  | cons c r ih =>
    rw [List.filter_cons, List.all_cons, letB_abc, ← ih]
    unfold oddC
    cases decide (c ∈ abcS.cps.toList) <;> rfl
theorem dp_strs {K : PySem.W.Frag} {H : Hp} : ∀ ys : List Str, DpAll K H (ys.map V.str) (ys.map PyData.str)
  | [] => .nil
  | y :: r => .cons (.str y) (dp_strs r)
theorem strs_can : ∀ ys : List Str, (∀ y ∈ ys, Sane y) → PyData.canLayAll0 (ys.map PyData.str) = true ∧ PyData.depthAll (ys.map PyData.str) ≤ 1
  | [], _ => ⟨rfl, by decide⟩
  | y :: r, h => by
    obtain ⟨h1, h2⟩ := strs_can r fun z hz => h z (List.mem_cons_of_mem _ hz)
    refine ⟨?_, ?_⟩
    · show (PyData.canLay0 (PyData.str y) && PyData.canLayAll0 (r.map PyData.str)) = true
      rw [h1, Bool.and_true]
      show y.cps.all (· < 0x110000) = true
      rw [← Array.all_toList, List.all_eq_true]
      intro c hc
      exact decide_eq_true (h y (List.mem_cons_self ..) c hc)
    · show max (PyData.depth (PyData.str y)) (PyData.depthAll (r.map PyData.str)) ≤ 1
      exact Nat.max_le.mpr ⟨by simp [PyData.depth], h2⟩
theorem strs_lay (ys : List Str) (h : ∀ y ∈ ys, Sane y) : SeqAt.shaped (PyData.list (ys.map PyData.str)) = true := by
  obtain ⟨h1, h2⟩ := strs_can ys h
  unfold SeqAt.shaped
  rw [Bool.and_eq_true, decide_eq_true_eq]
  refine ⟨h1, ?_⟩
  show PyData.depthAll (ys.map PyData.str) + 1 ≤ 64
  omega
theorem strs_eqv (ys : List Str) : PyData.eqv (PyData.list (ys.map PyData.str)) (PyData.list []) = ys.isEmpty := by
  cases ys with
  | nil => rfl
  | cons y r => rfl
section
variable {K : PySem.W.Frag}
theorem Val.dp {H : Hp} {x : V} {ds : List PyData} (h : Val K H x (.tuple ds)) : Dp K H x (.tuple ds) ∧ Good 60 (.tuple ds) := by
  rcases h with h | ⟨h, _⟩
  · exact h
  · cases h
theorem eqv_unit (ds : List PyData) : PyData.eqv (.tuple ds) (.tuple []) = ds.isEmpty := by
  cases ds <;> rfl
theorem two {α : Type} {r : List α} (h : r.length = 2) : ∃ a b, r = [a, b] := by
  match r, h with
  | [a, b], _ => exact ⟨a, b, rfl⟩
theorem filt_snoc {es : List PyData} {i : Nat} {e : PyData} (h : es[i]? = some e) (g : PyData → Bool) : (es.take (i + 1)).filter g = (es.take i).filter g ++ (if g e = true then [e] else []) := by
  rw [List.take_add_one, h, List.filter_append]
  congr 1
  show List.filter g [e] = _
  cases k : g e <;> simp [k]
theorem filt_all (es : List PyData) (g : PyData → Bool) : (es.filter fun e => !g e).isEmpty = es.all g := by
  induction es with
  | nil => rfl
  | cons e r ih =>
    rw [List.filter_cons, List.all_cons, ← ih]
    cases k : g e <;> simp
theorem eqv_nil (es : List PyData) : PyData.eqv (.list es) (.list []) = es.isEmpty := by
  cases es <;> rfl
theorem dpAll_app {H : Hp} : ∀ {xs ys : List V} {ds es : List PyData}, DpAll K H xs ds → DpAll K H ys es → DpAll K H (xs ++ ys) (ds ++ es)
  | _, _, _, _, .nil, k => k
  | _, _, _, _, .cons h r, k => .cons h (dpAll_app r k)
theorem Val.dp1 {H : Hp} {x : V} {d : PyData} (h : Val K H x d) (k : ∀ e, d ≠ .dict e) : Dp K H x d := by
  rcases h with h | ⟨h, _⟩
  · exact h.1
  · exact absurd h (k _)
theorem okD_dict {d : PyData} (h : okD d = true) : ∀ e, d ≠ .dict e := by
  intro e k
  subst k
  cases h
/-! ### the pool: what stands apart from it -/
def Rest (p : Addr) (R H : Hp) : Prop := Same R H ∧ R p = none ∧ ∃ (d : Addr) (ns : List Int) (k : Int), H p = some (.lst [.ref d, .int k]) ∧ R d = some (.lst (ns.map V.int)) ∧ 0 ≤ k
def Keep (p : Addr) (H H' : Hp) : Prop := ∀ b, b ≠ p → ∀ o, H b = some o → H' b = some o
structure Go (p : Addr) (R H R' H' : Hp) : Prop where
  same : Same R R'
  rest : Rest p R' H'
  keep : Keep p H H'
  fresh : ∀ b o, H b = some o → R b = none → R' b = none
theorem Rest.go {p : Addr} {R H : Hp} (k : Rest p R H) : Go p R H R H := ⟨Same.refl _, k, fun _ _ _ h => h, fun _ _ _ h => h⟩
theorem Go.trans {p : Addr} {R H R1 H1 R2 H2 : Hp} (a : Go p R H R1 H1) (b : Go p R1 H1 R2 H2) : Go p R H R2 H2 :=
  ⟨a.same.trans b.same, b.rest, fun c hc o h => b.keep c hc o (a.keep c hc o h), fun c o h hr => by
    by_cases e : c = p
    · rw [e]
      exact b.rest.2.1
    · exact b.fresh c o (a.keep c e o h) (a.fresh c o h hr)⟩
theorem Rest.ne {p D : Addr} {R H : Hp} (k : Rest p R H) (h : H D = none) : D ≠ p := fun e => by
  obtain ⟨_, _, d, ns, n, hp, _⟩ := k
  rw [e, hp] at h
  cases h
theorem Go.new {p t : Addr} {R H : Hp} {o : HO} (k : Rest p R H) (h : H t = none) : Go p R H (upd R t o) (upd H t o) := by
  have hne := k.ne h
  obtain ⟨s, hRp, d, ns, n, hp, hd, hn⟩ := k
  refine ⟨same_upd (s.free h), ⟨fun b x e => ?_, ?_, d, ns, n, ?_, (same_upd (s.free h)) _ _ hd, hn⟩, fun b _ x e => same_upd h b x e, fun b x e hr => ?_⟩
  · by_cases hb : b = t
    · subst hb
      rw [upd_same] at e ⊢
      exact e
    · rw [upd_ne hb] at e ⊢
      exact s b x e
  · rw [upd_ne hne.symm]
    exact hRp
  · rw [upd_ne hne.symm]
    exact hp
  · rw [upd_ne (ne_of_none e h)]
    exact hr
theorem Go.same_heap {p : Addr} {R H H' : Hp} (k : Rest p R H) (s : Same H H') : Go p R H R H' := by
  obtain ⟨s0, hRp, d, ns, n, hp, hd, hn⟩ := k
  exact ⟨Same.refl _, ⟨s0.trans s, hRp, d, ns, n, s _ _ hp, hd, hn⟩, fun b _ o h => s b o h, fun _ _ _ h => h⟩
/-- a store into a list that is being made -/
theorem Rest.put {p D : Addr} {R H : Hp} {o : HO} (k : Rest p R H) (hR : R D = none) (hne : D ≠ p) : Rest p R (upd H D o) := by
  obtain ⟨s0, hRp, d, ns, n, hp, hd, hn⟩ := k
  exact ⟨same_st s0 hR, hRp, d, ns, n, by rw [upd_ne hne.symm]; exact hp, hd, hn⟩
theorem Dp.go {p : Addr} {R H R' H' : Hp} {v : V} {d : PyData} (g : Go p R H R' H') (h : Dp K R v d) : Dp K R' v d := dp_same g.same d v h
/-- a comprehension that draws -/
theorem lc_go {J : It} {n : Nat} {G : Hp → Prop} {Y : Nat → Hp → V → Hp → Prop} (wk : Walk J n G Y) {p : Addr} {R H : Hp} {D : Addr} (hn : n ≤ 1000) (k : Rest p R H) (hD : H D = none) (hG : ∀ R1 H1, Go p R H R1 H1 → G H1)
    (PP : Hp → V → Prop) (Pm : ∀ R1 R2 y, Same R1 R2 → PP R1 y → PP R2 y) {g : TG} {tt : TT} {te : TE} {vs : List Nat} {σ : L2.St} {Qd : Hp → Prop}
    (hs : ∀ i x R1 H1 H1', i < n → Go p R H R1 H1 → Y i H1 x H1' → ∀ (C : V → Hp → Prop) (E : Hp → Prop), (∀ R2 H2 y, Go p R1 H1 R2 H2 → PP R2 y → C y H2) →
      g x (wipe σ vs) H1' fun σ2 H2 => wipe σ2 vs = wipe σ vs ∧ tt σ2 H2 fun b H3 => if b = true then te σ2 H3 C else E H3)
    (hd : ∀ R1 H1 ys, Go p R H R1 H1 → R1 D = some (.lst ys) → ys.length = n → (∀ y ∈ ys, PP R1 y) → Qd H1) :
    ∃ W : Nat → Nat → Hp → Prop, (∃ m, W 0 m (upd H D (.lst []))) ∧ ∀ i m H, W i m H →
      (J.stop i H ∧ Qd H) ∨ (J.go i H ∧ ∃ Nx : Hp → Prop, (∀ H', Nx H' → ∃ m', m' < m ∧ W (i + 1) m' H') ∧ ∀ x H', J.yld i H x H' → g x (wipe σ vs) H' fun σ2 H2 => wipe σ2 vs = wipe σ vs ∧ tt σ2 H2 fun b H3 =>
        if b = true then te σ2 H3 fun y H4 => ∃ acc, H4 D = some (.lst acc) ∧ acc.length < sizeLine ∧ Nx (upd H4 D (.lst (acc ++ [y]))) else Nx H3) := by
  have hne := k.ne hD
  have hRD : R D = none := k.1.free hD
  refine lc_it wk (fun i H' => ∃ R1, Go p R H R1 H' ∧ R1 D = none ∧ ∃ ys : List V, H' D = some (.lst ys) ∧ ys.length = i ∧ ∀ y ∈ ys, PP R1 y) ?_ ?_ ?_ ?_
  · refine ⟨R, ⟨Same.refl _, k.put hRD hne, fun b _ x e => same_upd hD b x e, fun _ _ _ h => h⟩, hRD, [], upd_same, rfl, fun y h => by cases h⟩
  · rintro i H' _ ⟨R1, g1, _⟩
    exact hG R1 H' g1
  · rintro i x H1 H1' hi ⟨R1, g1, hR1, ys, hy, hl, hP⟩ hY
    refine hs i x R1 H1 H1' hi g1 hY _ _ fun R2 H2 y g2 hp => ⟨ys, g2.keep D hne _ hy, small1000 (by omega), R2, ?_, g2.fresh D _ hy hR1, ys ++ [y], upd_same, ?_, ?_⟩
    · have g3 := g1.trans g2
      refine ⟨g3.same, g3.rest.put (g2.fresh D _ hy hR1) hne, fun b hb x e => ?_, g3.fresh⟩
      rw [upd_ne (ne_of_none e hD)]
      exact g3.keep b hb x e
    · rw [List.length_append, List.length_singleton, hl]
    · intro u hu
      rw [List.mem_append, List.mem_singleton] at hu
      rcases hu with hu | rfl
      · exact Pm R1 R2 u g2.same (hP u hu)
      · exact hp
  · rintro H1 ⟨R1, g1, hR1, ys, hy, hl, hP⟩
    have e1 : Same R1 (upd R1 D (.lst ys)) := same_upd hR1
    refine hd (upd R1 D (.lst ys)) H1 ys ⟨g1.same.trans e1, ?_, g1.keep, fun b o e hr => ?_⟩ upd_same hl fun y h => Pm _ _ y e1 (hP y h)
    · obtain ⟨s0, hRp, d, ns, n, hp, hd, hn⟩ := g1.rest
      refine ⟨fun b x e => ?_, by rw [upd_ne hne.symm]; exact hRp, d, ns, n, hp, e1 _ _ hd, hn⟩
      by_cases hb : b = D
      · subst hb
        rw [upd_same] at e
        rw [hy, e]
      · rw [upd_ne hb] at e
        exact s0 b x e
    · rw [upd_ne (ne_of_none e hD)]
      exact g1.fresh b o e hr
theorem at_int {xs : List V} {r : Int} (h0 : 0 ≤ r) (hi : r.toNat < xs.length) : ∃ v, atI xs r = some v ∧ v ∈ xs := by
  have e := atI_nat (List.getElem?_eq_getElem hi)
  rw [Int.toNat_of_nonneg h0] at e
  exact ⟨_, e, List.getElem_mem hi⟩
/-! ### data while the pool is drawn from -/
def cutG {α : Type} (ds : List α) (lo hi : Option Int) : List α := (ds.drop (HT.sIx ds.length 0 lo)).take (HT.sIx ds.length ds.length hi - HT.sIx ds.length 0 lo)
theorem dpAll_drop {H : Hp} : ∀ (n : Nat) {vs : List V} {ds : List PyData}, DpAll K H vs ds → DpAll K H (vs.drop n) (ds.drop n)
  | 0, _, _, h => h
  | n + 1, _, _, .nil => .nil
  | n + 1, _, _, .cons _ h => dpAll_drop n h
theorem dpAll_take {H : Hp} : ∀ (n : Nat) {vs : List V} {ds : List PyData}, DpAll K H vs ds → DpAll K H (vs.take n) (ds.take n)
  | 0, _, _, _ => .nil
  | n + 1, _, _, .nil => .nil
  | n + 1, _, _, .cons h r => .cons h (dpAll_take n r)
theorem dpAll_cut {H : Hp} {vs : List V} {ds : List PyData} (h : DpAll K H vs ds) (lo hi : Option Int) : DpAll K H (cutV vs lo hi) (cutG ds lo hi) := by
  have e := dpAll_len h
  unfold cutV cutG
  rw [e]
  exact dpAll_take _ (dpAll_drop _ h)
theorem cutG_mem {ds : List PyData} {lo hi : Option Int} {d : PyData} (h : d ∈ cutG ds lo hi) : d ∈ ds := List.mem_of_mem_drop (List.mem_of_mem_take h)
theorem cutG_len (ds : List PyData) (lo hi : Option Int) : (cutG ds lo hi).length ≤ ds.length := by
  unfold cutG
  rw [List.length_take, List.length_drop]
  omega
theorem cat_ok {p : Addr} {R H : Hp} {v u : V} {ds es : List PyData} {Q : VK} (k : Rest p R H) (hv : Dp K R v (.tuple ds)) (hu : Dp K R u (.tuple es)) (hl : ds.length + es.length ≤ 1000)
    (hq : ∀ x R' H', Go p R H R' H' → Dp K R' x (.tuple (ds ++ es)) → Q x H') : rCatA K v u H Q := by
  cases hv with
  | @tup a xs _ hs ha =>
    cases hu with
    | @tup b ys _ ht hb =>
      have l1 := dpAll_len ha
      have l2 := dpAll_len hb
      refine ⟨a, b, xs, ys, rfl, rfl, Same.seqT k.1 hs, Same.seqT k.1 ht, Nat.le_of_lt (small1000 (by omega)), fun e => ?_, fun _ e => ?_, fun _ _ t ht => ?_⟩
      · have e2 : ds = [] := List.eq_nil_of_length_eq_zero (by rw [← l1, e]; rfl)
        have := hq (.ref b) R H k.go
        rw [e2] at this
        exact this (.tup ht hb)
      · have e2 : es = [] := List.eq_nil_of_length_eq_zero (by rw [← l2, e]; rfl)
        have := hq (.ref a) R H k.go
        rw [e2, List.append_nil] at this
        exact this (.tup hs ha)
      · exact hq _ _ _ (Go.new k ht) (.tup (.inl (.inl upd_same)) (dpAll_same (Go.new k ht).same _ _ (dpAll_app ha hb)))
theorem slice_ok {p : Addr} {R H : Hp} {v : V} {ds : List PyData} {lo hi : Option Int} {Q : VK} (k : Rest p R H) (hv : Dp K R v (.tuple ds))
    (hq : ∀ x R' H', Go p R H R' H' → Dp K R' x (.tuple (cutG ds lo hi)) → Q x H') : rSlA K v lo hi H Q := by
  cases hv with
  | @tup a xs _ hs ha =>
    have l1 := dpAll_len ha
    refine ⟨a, xs, rfl, Same.seqT k.1 hs, fun e => ?_, fun _ t ht => ?_⟩
    · have e2 : cutG ds lo hi = ds := by
        unfold cutG
        rw [← l1, e.1, e.2, l1]
        show (ds.drop 0).take (ds.length - 0) = ds
        rw [List.drop_zero, Nat.sub_zero, List.take_length]
      have := hq (.ref a) R H k.go
      rw [e2] at this
      exact this (.tup hs ha)
    · exact hq _ _ _ (Go.new k ht) (.tup (.inl (.inl upd_same)) (dpAll_same (Go.new k ht).same _ _ (dpAll_cut ha lo hi)))
theorem slice_lo {p : Addr} {R H : Hp} {v : V} {ds : List PyData} {lo : Option Int} {σ : L2.St} {Q : VK} (k : Rest p R H) (hv : Dp K R v (.tuple ds))
    (hq : ∀ x R' H', Go p R H R' H' → Dp K R' x (.tuple (cutG ds lo none)) → Q x H') : tNoPart σ H (fun u H3 => rSlA K v lo u H3 Q) := slice_ok (hi := none) k hv hq
theorem lst_raw {p t : Addr} {R H : Hp} (vs : List V) (k : Rest p R H) (ht : H t = none) : Go p R H (upd R t (.lst vs)) (upd H t (.lst vs)) ∧ (upd R t (.lst vs)) t = some (.lst vs) := ⟨Go.new k ht, upd_same⟩
theorem tup_new {p t : Addr} {R H : Hp} {vs : List V} {ds : List PyData} (k : Rest p R H) (ht : H t = none) (hv : DpAll K R vs ds) : Go p R H (upd R t (.tup vs)) (upd H t (.tup vs)) ∧ Dp K (upd R t (.tup vs)) (.ref t) (.tuple ds) :=
  ⟨Go.new k ht, .tup (.inl (.inl upd_same)) (dpAll_same (Go.new (o := .tup vs) k ht).same _ _ hv)⟩
theorem lst_new {p t : Addr} {R H : Hp} {vs : List V} {ds : List PyData} (k : Rest p R H) (ht : H t = none) (hv : DpAll K R vs ds) : Go p R H (upd R t (.lst vs)) (upd H t (.lst vs)) ∧ Dp K (upd R t (.lst vs)) (.ref t) (.list ds) :=
  ⟨Go.new k ht, .lst (.inl (.inl upd_same)) (dpAll_same (Go.new (o := .lst vs) k ht).same _ _ hv)⟩
/-- some data of moderate size -/
def PD (K : PySem.W.Frag) (n : Nat) (R : Hp) (x : V) : Prop := ∃ d, Dp K R x d ∧ Good n d
theorem PD.same {n : Nat} {R R' : Hp} {x : V} (h : PD K n R x) (s : Same R R') : PD K n R' x := by
  obtain ⟨d, h, g⟩ := h
  exact ⟨d, dp_same s d x h, g⟩
theorem PD.mono {n m : Nat} {R : Hp} {x : V} (h : PD K n R x) (k : n ≤ m) : PD K m R x := by
  obtain ⟨d, h, g⟩ := h
  exact ⟨d, h, g.mono k⟩
theorem good_str {z : Str} (h : z.length ≤ 1000) (s : Sane z) (n : Nat) : Good n (.str z) := by
  refine ⟨?_, Nat.zero_le _⟩
  show (decide (z.length ≤ 1000) && z.cps.all (· < 0x110000)) = true
  rw [decide_eq_true h, Bool.true_and, ← Array.all_toList, List.all_eq_true]
  exact fun c hc => decide_eq_true (s c hc)
theorem good_t {n : Nat} {ds : List PyData} (h : ds.length ≤ 1000) (g : ∀ d ∈ ds, Good n d) : Good (n + 1) (.tuple ds) := Good.tup.mpr ⟨h, g⟩
end
theorem ints_can : ∀ ns : List Int, PyData.canLayAll0 (ns.map PyData.int) = true ∧ PyData.depthAll (ns.map PyData.int) ≤ 1
  | [] => ⟨rfl, by decide⟩
  | y :: r => by
    obtain ⟨h1, h2⟩ := ints_can r
    refine ⟨?_, ?_⟩
    · show (PyData.canLay0 (PyData.int y) && PyData.canLayAll0 (r.map PyData.int)) = true
      rw [h1]
      rfl
    · show max (PyData.depth (PyData.int y)) (PyData.depthAll (r.map PyData.int)) ≤ 1
      exact Nat.max_le.mpr ⟨by simp [PyData.depth], h2⟩
theorem ints_lay (ns : List Int) : SeqAt.shaped (PyData.list (ns.map PyData.int)) = true := by
  obtain ⟨h1, h2⟩ := ints_can ns
  unfold SeqAt.shaped
  rw [Bool.and_eq_true, decide_eq_true_eq]
  refine ⟨h1, ?_⟩
  show PyData.depthAll (ns.map PyData.int) + 1 ≤ 64
  omega
theorem dp_ints {K : PySem.W.Frag} {H : Hp} : ∀ ys : List Int, DpAll K H (ys.map V.int) (ys.map PyData.int)
  | [] => .nil
  | y :: r => .cons (.int y) (dp_ints r)
theorem same_of {H H1 : Hp} {p : Addr} {o : HO} (s : Same H H1) (h : H1 p = none) : Same H (upd H1 p o) := s.trans (same_upd h)
theorem joinL_mem : ∀ (ls : List (List Nat)) (c : Nat), c ∈ joinL [] ls → ∃ l ∈ ls, c ∈ l
  | [], c, h => by cases h
  | [l], c, h => ⟨l, List.mem_cons_self .., h⟩
  | l :: m :: r, c, h => by
    have h : c ∈ l ++ ([] ++ joinL [] (m :: r)) := h
    rw [List.nil_append, List.mem_append] at h
    rcases h with h | h
    · exact ⟨l, List.mem_cons_self .., h⟩
    · obtain ⟨x, hx, hc⟩ := joinL_mem (m :: r) c h
      exact ⟨x, List.mem_cons_of_mem _ hx, hc⟩
theorem joinL_len : ∀ (ls : List (List Nat)), (joinL [] ls).length = (ls.map List.length).sum
  | [] => rfl
  | [l] => by show l.length = _; simp
  | l :: m :: r => by
    show (l ++ ([] ++ joinL [] (m :: r))).length = _
    rw [List.nil_append, List.length_append, joinL_len (m :: r)]
    rfl
theorem join_facts (ys : List Str) (h : ∀ y ∈ ys, y.length = 1 ∧ Sane y) : (Txt.join "" ys).length = ys.length ∧ Sane (Txt.join "" ys) := by
  have e : (Txt.join "" ys).cps.toList = joinL [] (ys.map tl) := by
    rw [join_eq]
    exact tl_join "" ys
  refine ⟨?_, ?_⟩
  · show (Txt.join "" ys).cps.size = ys.length
    rw [← Array.length_toList, e, joinL_len, List.map_map]
    clear e
    induction ys with
    | nil => rfl
    | cons y r ih =>
      rw [List.map_cons, List.sum_cons, List.length_cons, ih fun z hz => h z (List.mem_cons_of_mem _ hz)]
      have e1 : (List.length ∘ tl) y = 1 := by
        show y.cps.toList.length = 1
        rw [Array.length_toList]
        exact (h y (List.mem_cons_self ..)).1
      rw [e1]
      omega
  · intro c hc
    rw [e] at hc
    obtain ⟨l, hl, hcl⟩ := joinL_mem _ c hc
    obtain ⟨y, hy, rfl⟩ := List.mem_map.mp hl
    exact (h y hy).2 c hcl
theorem join_le (ys : List Str) (h : ∀ y ∈ ys, y.length = 1) : (ys.map (·.length)).sum = ys.length := by
  induction ys with
  | nil => rfl
  | cons y r ih =>
    rw [List.map_cons, List.sum_cons, List.length_cons, ih fun z hz => h z (List.mem_cons_of_mem _ hz), h y (List.mem_cons_self ..)]
    omega
theorem cut_mem {xs : List V} {lo hi : Option Int} {x : V} {i : Nat} (h : (cutV xs lo hi)[i]? = some x) : x ∈ xs := by
  have h1 := List.mem_of_getElem? h
  unfold cutV at h1
  exact List.mem_of_mem_drop (List.mem_of_mem_take h1)
theorem at_abc {r : Int} (h0 : 0 ≤ r) (h1 : r < 26) : ∃ c, atI abcS.cps.toList r = some c ∧ c < 1114112 := by
  have hl : abcS.cps.toList.length = 26 := by decide +kernel
  have hi : r.toNat < abcS.cps.toList.length := by omega
  have e := atI_nat (List.getElem?_eq_getElem hi)
  rw [Int.toNat_of_nonneg h0] at e
  refine ⟨_, e, ?_⟩
  have := (abc_mem _).mp (List.getElem_mem hi)
  omega
section
variable {K : PySem.W.Frag}
theorem pd_all {n : Nat} {R : Hp} : ∀ {ys : List V}, (∀ y ∈ ys, PD K n R y) → ∃ ds, DpAll K R ys ds ∧ ∀ d ∈ ds, Good n d
  | [], _ => ⟨[], .nil, fun d h => by cases h⟩
  | y :: ys, h => by
    obtain ⟨d, h1, h2⟩ := h y (List.mem_cons_self ..)
    obtain ⟨ds, h3, h4⟩ := pd_all fun z hz => h z (List.mem_cons_of_mem _ hz)
    refine ⟨d :: ds, .cons h1 h3, fun e he => ?_⟩
    rcases List.mem_cons.mp he with rfl | he
    · exact h2
    · exact h4 e he
theorem signs_of : ∀ {ys : List V}, (∀ y ∈ ys, ∃ c : Nat, y = .str ⟨#[c]⟩ ∧ c < 1114112) → ∃ zs : List Str, ys = zs.map V.str ∧ zs.length = ys.length ∧ ∀ z ∈ zs, z.length = 1 ∧ Sane z
  | [], _ => ⟨[], rfl, rfl, fun z h => by cases h⟩
  | y :: ys, h => by
    obtain ⟨c, rfl, hc⟩ := h y (List.mem_cons_self ..)
    obtain ⟨zs, h3, h4, h5⟩ := signs_of fun z hz => h z (List.mem_cons_of_mem _ hz)
    refine ⟨⟨#[c]⟩ :: zs, by rw [h3]; rfl, by rw [List.length_cons, List.length_cons, h4], fun e he => ?_⟩
    rcases List.mem_cons.mp he with rfl | he
    · exact ⟨rfl, fun x hx => by
        have : x = c := by simpa using hx
        omega⟩
    · exact h5 e he
theorem mem_app {P : V → Prop} {a b c : List V} (e : a ++ b = c) (h1 : ∀ y ∈ a, P y) (h2 : ∀ y ∈ b, P y) : ∀ y ∈ c, P y := fun y h => by
  rw [← e] at h
  exact (List.mem_append.mp h).elim (h1 y) (h2 y)
end
theorem vals_abs : ∀ (us : List Value) (xs : List V), us.map absV = xs.map some → Vals xs us
  | [], [], _ => .nil
  | [], _ :: _, h => by cases h
  | _ :: _, [], h => by cases h
  | u :: us, x :: xs, h => by
    rw [List.map_cons, List.map_cons, List.cons.injEq] at h
    refine .cons ?_ (vals_abs us xs h.2)
    have h1 := h.1
    cases u <;> simp only [absV] at h1 <;> cases h1 <;> first | rfl | exact ⟨_, rfl⟩
theorem tup_of {K : PySem.W.Frag} {a : Addr} {od : Option Addr} {its : Array Value} {n : Nat} {sl : Array (Option Value)} {ws : List Str} (h : K.lookup a = some ⟨.type "tuple", od, .seq its n, sl⟩) (hv : its.toList.map absV = (ws.map V.str).map some) (hl : ws.length ≤ 1000) : ∀ H, SqT K H a (ws.map V.str) := fun H => by
  have r := vals_abs its.toList _ hv
  refine .inr ⟨_, its, n, h, rfl, rfl, ?_, r⟩
  have e := r.length
  simp only [List.length_map, Array.length_toList] at e
  exact Nat.le_of_lt (small1000 (by rw [← e]; exact hl))
end GG

/-! Objects of a program's own classes: made with a star, methods whose exceptions are wished for at the caller's slots, static methods, len, places in tuples of data, counts of texts, repr of what is flat. -/
namespace OO
open PySem PySem.Spec PyProof.Rows L2
theorem pat {CX : CXT} {X : Cx} {E : XK} (h : Passes CX X E) : ∀ σ : L2.St, PassesAt CX X σ ((fun _ => E) σ) := fun σ pins H s e s' I c => h pins σ H s e s' I c
section
variable {X : Cx} {CX : CXT} {k : Nat} {f C p g : Addr} {mc : Value} {sp : Sp} {E : L2.St → XK} {x m : Str} {e o : Expr} {es : List Expr} {te ta : TE} {t : TA} {q sp_ pos apos : Pos} {pl : Sem Bool} {pins : List (Addr × Obj)} {σ : L2.St} {H : Hp} {s : Shared}
theorem run_fnRS {Q : VK} {us : List Value} {vs : List V} (F : FnR X.prog X.w X.K X.mg X.base CX k f sp) (hr : Room k X.A) (hx : PassesAt CX X σ (E σ)) (I : Inv X pins σ H s) (r : Vals vs us) (h : sp vs H Q (E σ)) :
    codeAny (model X.prog X.w) X.A (.call (.ref f) ⟨us, []⟩) (fun r s' => match r with | .ok (.ret v) => EP X pins σ Q v s' | .ok _ => False | .error e => X.xe e s') s := by
  refine codeAny_mono (F X.A X.stack s H us vs Q (E σ) hr I.env0 r h) fun r s' hq => ?_
  cases r with
  | error e => exact hx pins H s e s' I hq
  | ok fl =>
    cases fl with
    | ret u => exact I.after hq
    | next => exact False.elim hq
    | brk => exact False.elim hq
    | cont => exact False.elim hq
/-- f(e, ..) by a positional promise -/
def tCallRS (sp : Sp) (E : L2.St → XK) (t : TA) : TE := fun σ H Q => t σ H fun vs H1 => sp vs H1 Q (E σ)
theorem pe_callRS (F : FnR X.prog X.w X.K X.mg X.base CX k f sp) (hr : Room k X.A) (hg : Gl X x) (hm : X.mg x = some (.ref f)) (hk : PySem.W.keepIn X.K (.ref f) = true) (hx : ∀ σ, PassesAt CX X σ (E σ))
    (ha : PA X (e :: es) t) (hdb : (x == ("__debug__" : Str)) = false := by decide) (he : starEach (e :: es) X.env = (false, eval e X.env) :: starEach es X.env := by rfl) (hpl : (backTo pos (starEach es X.env)).any (·.1) = false := by rfl) :
    PE X (.Call (.Name x q) (e :: es) [] pos) (tCallRS sp E t) := by
  refine ⟨fun pins s σ H Q I h => ?_⟩
  refine wpAny_Call_Name_kw (ld_glob I hg hm ?_ hdb)
  refine PySem.W.callWith_K (h₀ := X.base) I.ok.mod.kin hk (thn (ha.run pos pins s σ H _ I h) fun us s1 ⟨vs, H1, I1, r, q⟩ => ⟨I1.kIn, ?_⟩) he hpl
  exact wpAny_call (run_fnRS F hr (hx σ) I1 r q)
/-- o.m(e, ..) -/
def tMethRS (C : Addr) (m : Str) (sp : Sp) (E : L2.St → XK) (ta : TE) (t : TA) : TE := fun σ H Q => ta σ H fun x H1 => ∃ a dx fs, x = .ref a ∧ H1 a = some (.ins C dx fs) ∧ fs.lookup m = none ∧ t σ H1 fun vs H2 => sp (x :: vs) H2 Q (E σ)
theorem pe_methRS (he : PE X o ta) (c : Cls X.K C) (hm : Meth X.K C m f) (F : FnR X.prog X.w X.K X.mg X.base CX k f sp) (hr : Room k X.A) (hx : ∀ σ, PassesAt CX X σ (E σ)) (ha : PA X (e :: es) t)
    (hst : starEach (e :: es) X.env = (false, eval e X.env) :: starEach es X.env := by rfl) (hpl : (backTo pos (starEach es X.env)).any (·.1) = false := by rfl)
    (ht : eval (.Call (.Attribute o m apos) (e :: es) [] pos) X.env = (do
      let ov ← eval o X.env
      standAt apos.atName
      let (f, first) ← holding [ov] (getMethod ov m pl)
      callWith pos f first (backTo pos (starEach (e :: es) X.env)) (backToKw pos (keywordEach [] X.env))) := by rfl) :
    PE X (.Call (.Attribute o m apos) (e :: es) [] pos) (tMethRS C m sp E ta t) := by
  refine ⟨fun pins s σ H Q I h => ?_⟩
  refine PySem.W.methodCall_KW (pl := pl) (thn (he.run pins s σ H _ I h) fun u s1 ⟨x, H1, I1, rx, a, dx, fs, ex, ea, l, q⟩ => ?_) ht
  subst ex
  obtain rfl : u = Value.ref a := rx
  refine getmeth_ok I1 ea c hm l ?_
  refine PySem.W.callWith_K (first := [.ref a]) (h₀ := X.base) I.ok.mod.kin hm.kp (thn (ha.run pos pins s1 σ H1 _ I1 q) fun us s2 ⟨vs, H2, I2, r, q2⟩ => ⟨I2.kIn, ?_⟩) hst hpl
  exact wpAny_call (run_fnRS (us := .ref a :: us) (vs := .ref a :: vs) F hr (hx σ) I2 (.cons rfl r) q2)
/-- C.m is a static method: its record at p, its def at g -/
structure SMet (K : PySem.W.Frag) (C : Addr) (mc : Value) (m : Str) (p g : Addr) : Prop where
  at_ : PySem.W.findCls K (.ref C) mc m = some (.get (.builtin "staticmethod.__get__") (.ref p) .none (.ref C))
  rc : ∃ rest, PySem.W.recIn K p "staticmethod" = some (.ref g :: rest)
  kp : PySem.W.keepIn K (.ref g) = true
theorem getsm_ok {A : Around} {E : Value → Shared → Prop} {b : Bool} {Q : Value → Shared → Prop} (I : Inv X pins σ H s) (r : ClX.CRead X.K C mc) (k : SMet X.K C mc m p g) (h : ∀ s', Inv X pins σ H s' → Q (.ref g) s') : wpAny (model X.prog X.w) A (getAttr (.ref C) m b) Q E s := by
  obtain ⟨rest, hp⟩ := k.rc
  refine PySem.W.cls_bind I.kIn r.rd k.at_ ?_
  exact wpAny_call (PySem.W.sm_get (s := { s with toks := s.toks + 1 }) I.kIn hp (PySem.W.handed_on rfl (h _ (I.tok _))))
/-- C.m(e, ..) -/
def tSMethS (C : Addr) (sp : Sp) (E : L2.St → XK) (ta : TE) (t : TA) : TE := fun σ H Q => ta σ H fun x H1 => x = .ref C ∧ t σ H1 fun vs H2 => sp vs H2 Q (E σ)
theorem pe_smethS (he : PE X o ta) (r : ClX.CRead X.K C mc) (c : SMet X.K C mc m p g) (F : FnR X.prog X.w X.K X.mg X.base CX k g sp) (hr : Room k X.A) (hx : ∀ σ, PassesAt CX X σ (E σ)) (ha : PA X (e :: es) t)
    (hst : starEach (e :: es) X.env = (false, eval e X.env) :: starEach es X.env := by rfl) (hpl : (backTo pos (starEach es X.env)).any (·.1) = false := by rfl)
    (ht : eval (.Call (.Attribute o m apos) (e :: es) [] pos) X.env = (do
      let ov ← eval o X.env
      standAt apos.atName
      let (f, first) ← holding [ov] (getMethod ov m pl)
      callWith pos f first (backTo pos (starEach (e :: es) X.env)) (backToKw pos (keywordEach [] X.env))) := by rfl) :
    PE X (.Call (.Attribute o m apos) (e :: es) [] pos) (tSMethS C sp E ta t) := by
  refine ⟨fun pins s σ H Q I h => ?_⟩
  refine PySem.W.methodCall_KW (pl := pl) (thn (he.run pins s σ H _ I h) fun u s1 ⟨x, H1, I1, rx, ex, q⟩ => ?_) ht
  subst ex
  obtain rfl : u = Value.ref C := rx
  refine PySem.W.method_cls I1.kIn r.ga (getsm_ok I1 r c fun s2 I2 => ?_)
  refine PySem.W.callWith_K (first := []) (h₀ := X.base) I.ok.mod.kin c.kp (thn (ha.run pos pins s2 σ H1 _ I2 q) fun us s3 ⟨vs, H2, I3, r3, q2⟩ => ⟨I3.kIn, ?_⟩) hst hpl
  exact wpAny_call (run_fnRS F hr (hx σ) I3 r3 q2)
/-- C( *y), C(e, ..), C(): by a positional promise of __init__ -/
theorem run_makeRS {Q : VK} {us : List Value} {vs : List V} (M : Mk X.K C f) (F : FnR X.prog X.w X.K X.mg X.base CX k f sp) (hr : Room (k + 1) X.A) (hx : PassesAt CX X σ (E σ)) (I : Inv X pins σ H s) (r : Vals vs us)
    (h : ∀ x dx, H x = Option.none → H dx = Option.none → dx ≠ x → sp (V.ref x :: vs) (upd (upd H dx (.own x)) x (.ins C dx [])) (fun v H2 => v = .non ∧ Q (.ref x) H2) (E σ)) :
    wpAny (model X.prog X.w) X.A (call (.ref C) us) (EP X pins σ Q) X.xe s := by
  have hq := h (s.heap.objs.size + 1) s.heap.objs.size (I.hok.fresh (Nat.le_succ _)) (I.hok.fresh (Nat.le_refl _)) (Nat.ne_of_lt (Nat.lt_succ_self _))
  have I2 := Inv.made (C := C) I
  have r2 : Vals (V.ref (s.heap.objs.size + 1) :: vs) (Value.ref (s.heap.objs.size + 1) :: us) := .cons rfl r
  refine wpAny_call (make_map (f := f) I.kIn M.makes M.init (beq_iff_eq.mp M.fn) (codeAny_mono (F _ X.stack _ _ (Value.ref (s.heap.objs.size + 1) :: us) _ _ (E σ) (hr.make C us []) (I2.env0.make C us []) r2 hq) fun r s' hq' => ?_))
  cases r with
  | error e => exact hx pins _ _ e s' I2 hq'
  | ok fl =>
    cases fl with
    | ret u =>
      obtain ⟨v, H', I3, rv, ev, q3⟩ := I2.after hq'
      subst ev
      exact ⟨rv, ⟨V.ref (s.heap.objs.size + 1), H', I3, rfl, q3⟩⟩
    | next => exact False.elim hq'
    | brk => exact False.elim hq'
    | cont => exact False.elim hq'
def tMakeRS (C : Addr) (sp : Sp) (E : L2.St → XK) (t : TA) : TE := fun σ H Q => t σ H fun vs H1 => ∀ x dx, H1 x = Option.none → H1 dx = Option.none → dx ≠ x →
  sp (V.ref x :: vs) (upd (upd H1 dx (.own x)) x (.ins C dx [])) (fun v H2 => v = .non ∧ Q (.ref x) H2) (E σ)
theorem pe_makeRS (M : Mk X.K C f) (F : FnR X.prog X.w X.K X.mg X.base CX k f sp) (hr : Room (k + 1) X.A) (hg : Gl X x) (hm : X.mg x = some (.ref C)) (hx : ∀ σ, PassesAt CX X σ (E σ)) (ha : PA X (e :: es) t) (hdb : (x == ("__debug__" : Str)) = false := by decide)
    (he : starEach (e :: es) X.env = (false, eval e X.env) :: starEach es X.env := by rfl) (hpl : (backTo pos (starEach es X.env)).any (·.1) = false := by rfl) : PE X (.Call (.Name x q) (e :: es) [] pos) (tMakeRS C sp E t) := by
  refine ⟨fun pins s σ H Q I h => ?_⟩
  refine wpAny_Call_Name_kw (ld_glob I hg hm ?_ hdb)
  refine PySem.W.callWith_K (h₀ := X.base) I.ok.mod.kin M.kp (thn (ha.run pos pins s σ H _ I h) fun us s1 ⟨vs, H1, I1, r, q⟩ => ⟨I1.kIn, ?_⟩) he hpl
  exact run_makeRS M F hr (hx σ) I1 r q
theorem pe_makeRS0 (M : Mk X.K C f) (F : FnR X.prog X.w X.K X.mg X.base CX k f sp) (hr : Room (k + 1) X.A) (hg : Gl X x) (hm : X.mg x = some (.ref C)) (hx : ∀ σ, PassesAt CX X σ (E σ)) (hdb : (x == ("__debug__" : Str)) = false := by decide) :
    PE X (.Call (.Name x q) [] [] pos) (tMakeRS C sp E tNil) := by
  refine ⟨fun pins s σ H Q I h => ?_⟩
  refine wpAny_Call_Name_kw (ld_glob I hg hm ?_ hdb)
  exact PySem.W.callWith_K0 I.kIn M.kp (run_makeRS (us := []) M F hr (hx σ) I .nil h)
def tMakeSt (K : PySem.W.Frag) (C : Addr) (sp : Sp) (E : L2.St → XK) (te : TE) : TE := fun σ H Q => te σ H fun y H1 => ∃ a xs, y = V.ref a ∧ (SqT K H1 a xs ∨ SqL K H1 a xs) ∧ ∀ x dx, H1 x = Option.none → H1 dx = Option.none → dx ≠ x →
  sp (V.ref x :: xs) (upd (upd H1 dx (.own x)) x (.ins C dx [])) (fun v H2 => v = .non ∧ Q (.ref x) H2) (E σ)
theorem pe_makeSt (M : Mk X.K C f) (F : FnR X.prog X.w X.K X.mg X.base CX k f sp) (hr : Room (k + 1) X.A) (hg : Gl X x) (hm : X.mg x = some (.ref C)) (hx : ∀ σ, PassesAt CX X σ (E σ)) (he : PE X e te) (hdb : (x == ("__debug__" : Str)) = false := by decide)
    (hst : starEach [.Starred e sp_] X.env = [(true, eval e X.env)] := by rfl) : PE X (.Call (.Name x q) [.Starred e sp_] [] pos) (tMakeSt X.K C sp E te) := by
  refine ⟨fun pins s σ H Q I h => ?_⟩
  refine wpAny_Call_Name_kw (ld_glob I hg hm ?_ hdb)
  refine PySem.W.callWith_S (h₀ := X.base) I.ok.mod.kin M.kp (thn (he.run pins s σ H _ I h) fun v s1 ⟨y, H1, I1, ry, a, xs, ey, hxs, q⟩ => ?_) hst
  subst ey
  obtain rfl : v = Value.ref a := ry
  exact StX.star_any I1 hxs fun us s2 I2 rv => ⟨I2.kIn, run_makeRS M F hr (hx σ) I2 rv q⟩
/-- len(o), o an instance of the class at C whose __len__ is the def at g -/
theorem call_lenO {E : XK} (F : FnR X.prog X.w X.K X.mg X.base CX k g sp) (hr : Room (k + 1) X.A) (hx : Passes CX X E) (hs : PySem.W.findIn X.K (.ref C) "__len__" = some (some (.ref g))) (hf : PySem.W.isFn X.K (.ref g) = true) :
    CallR X (.builtin "len") (fun xs H Q => ∃ a dx fs, xs = [V.ref a] ∧ H a = some (.ins C dx fs) ∧ sp [V.ref a] H (fun v H' => ∃ n : Nat, v = .int n ∧ n ≤ 1000 ∧ Q (.int n) H') E) := by
  intro pins s σ H xs us Q I r h
  obtain ⟨a, dx, fs, rfl, ha, h⟩ := h
  obtain ⟨u, rfl, hu⟩ := vals1 r
  obtain rfl : u = Value.ref a := hu
  obtain ⟨mA, O, _, _, _, _⟩ := ins_get I.hok ha
  obtain ⟨od, J, _⟩ := O.look
  refine Calls.call_function_entry kind_len plain_len entry_len (args_len1 _) ?_
  unfold Builtin.«len»
  refine wpAny_bind (m := oneArg "len" _) (wpAny_pure ?_)
  have r2 : Vals [V.ref a] [Value.ref a] := .cons rfl .nil
  refine wpAny_bind (m := callSpecial? (.ref a) (Str.ofString "__len__")) (PySem.W.special_fn (args := []) I.kIn J hs (beq_iff_eq.mp hf) (wpAny_call (codeAny_mono (F X.A.in1 X.stack s H [.ref a] [.ref a] _ E hr.in1 I.env0.in1 r2 h) fun r s' hq => ?_)))
  cases r with
  | error e => exact hx pins σ H s e s' I hq
  | ok fl =>
    cases fl with
    | ret u =>
      obtain ⟨v, H', I3, rv, n, ev, hn, q3⟩ := I.after hq
      subst ev
      obtain ⟨tk, eu⟩ := (show ∃ tk, u = Value.int n tk from rv)
      subst eu
      refine wpAny_bind (wpAny_holding (wpAny_pure ?_))
      refine wpAny_bind (wpAny_letGo ?_)
      show wpAny _ _ (if ((n : Nat) : Int) < 0 then _ else _) _ _ _
      rw [if_neg (by omega)]
      show wpAny _ _ (if ((n : Nat) : Int) ≥ 2 ^ 63 then _ else _) _ _ _
      rw [if_neg (by omega)]
      exact wpAny_bind (wpAny_mkInt (wpAny_pure ⟨_, rfl, .int n, H', I3.tok _, ⟨_, rfl⟩, q3⟩))
    | next => exact False.elim hq
    | brk => exact False.elim hq
    | cont => exact False.elim hq
/-! ### data in tuples -/
def rInT (K : PySem.W.Frag) : R2 := fun x y H Q => ∃ d ds, Dp K H x d ∧ Dp K H y (.tuple ds) ∧ SeqAt.shaped d = true ∧ SeqAt.shaped (.tuple ds) = true ∧ Q (.bl (ds.any fun z => PyData.eqv z d)) H
theorem op_inT (hu : X.A.units + 65 < cLine) : OpR X (compareOp .In) (rInT X.K) := by
  intro pins s σ H x y v u Q I rx ry h
  obtain ⟨d, ds, hd, he, sd, se, q⟩ := h
  obtain ⟨as, r1⟩ := Dp.reads I d x v hd rx
  obtain ⟨bs, r2⟩ := Dp.reads I (.tuple ds) y u he ry
  exact SeqAt.in_tuple_reads r2 r1 (SeqAt.canLay_of_shaped se) (SeqAt.canLay_of_shaped sd) (room_in_shaped sd hu) ⟨.bl _, H, I, rfl, q⟩
/-- t.index(x): the first place of an equal one -/
def rIndexT (K : PySem.W.Frag) : V → List V → Hp → VK → Prop := fun x xs H Q => ∃ (a : Addr) (y : V) (d : PyData) (ds : List PyData) (j : Nat) (z : PyData), x = V.ref a ∧ xs = [y] ∧ Dp K H (V.ref a) (.tuple ds) ∧ Dp K H y d ∧
  SeqAt.shaped (.tuple ds) = true ∧ SeqAt.shaped d = true ∧ ds[j]? = some z ∧ PyData.eqv z d = true ∧ (∀ (m : Nat) (z' : PyData), m < j → ds[m]? = some z' → PyData.eqv z' d = false) ∧ Q (.int (j : Nat)) H
theorem mt_tindexD (hu : X.A.units + 65 < cLine) : MtR X "tuple.index" (rIndexT X.K) := by
  intro pins s σ H x xs v us Q I rx rxs h
  obtain ⟨a, y, d, ds, j, z, rfl, rfl, hl, hy, sl, sd, hz, hzj, hno, q⟩ := h
  cases rx
  cases rxs with
  | cons ry rt =>
    rename_i uy ut
    cases rt
    obtain ⟨bs, r1⟩ := Dp.reads I d y uy hy ry
    have hxs : PyData.canLayAll0 ds = true := SeqAt.canLay_of_shaped sl
    have hroom : X.A.units + 1 + min (PyData.depthAll ds) d.depth < cLine := room_in_shaped sd hu
    cases hl with
    | tup hs ha =>
      obtain ⟨its, rv, ⟨⟨cls, dd, data, sls⟩, ho, hc, n, hdt⟩, hlen⟩ := I.tuple hs
      simp only at hc hdt
      subst hc hdt
      obtain ⟨as, h4⟩ := Dp.readsAll I ds _ its ha rv
      have hn : its.length = ds.length := SeqAt.ReadsAll.length ds its as h4
      have hmap : its.map (SeqAt.readOf s.heap) = ds := SeqAt.readsAll_map ds its as hxs h4
      have hvl := rv.length
      obtain ⟨hjd, _⟩ := List.getElem?_eq_some_iff.mp hz
      have hjl : j < its.length := by omega
      have hj : j < its.toArray.size := by simpa using hjl
      have at_ : ∀ (m : Nat) (hm : m < its.toArray.size) (z' : PyData), ds[m]? = some z' → SeqAt.readOf s.heap its.toArray[m] = z' := by
        intro m hm z' hz'
        have hml : m < its.length := by simpa using hm
        rw [← hmap, List.getElem?_map, List.getElem?_eq_getElem hml] at hz'
        have e1 : SeqAt.readOf s.heap its[m] = z' := Option.some.inj (show some (SeqAt.readOf s.heap its[m]) = some z' from hz')
        simpa using e1
      refine call_meets PySem.F.slot_tuple_index ⟨_, ho, rfl⟩ PySem.F.entry_tuple_index (PySem.F.args_tuple_index_2 _ _)
        (TI.tuple_indexAt a its.toArray n dd sls uy (fun u => PyData.eqv (SeqAt.readOf s.heap u) d) j hj ?_ ?_) ⟨ho, SeqAt.items_eqAt (vs := its.toArray) (show ReadsAll s.heap its.toArray.toList ds as from h4) r1 hxs (SeqAt.canLay_of_shaped sd) hroom, ?_⟩
      · show PyData.eqv (SeqAt.readOf s.heap its.toArray[j]) d = true
        rw [at_ j hj z hz]
        exact hzj
      · intro m hm hmj
        have hmd : m < ds.length := by omega
        have hz' : ds[m]? = some ds[m] := List.getElem?_eq_getElem hmd
        show PyData.eqv (SeqAt.readOf s.heap its.toArray[m]) d = false
        rw [at_ m hm _ hz']
        exact hno m _ hmj hz'
      · exact ⟨.int (j : Nat), H, I.tok _, ⟨_, rfl⟩, q⟩
/-- xs.count(z), texts -/
def rCntS (K : PySem.W.Frag) : V → List V → Hp → VK → Prop := fun x xs H Q => ∃ (p : Addr) (ys : List Str) (z : Str), x = .ref p ∧ xs = [.str z] ∧ SqL K H p (ys.map V.str) ∧ Q (.int (countIn (.str z) (ys.map PyData.str))) H
theorem mt_lcountS : MtR X "list.count" (rCntS X.K) := by
  intro pins s σ H x xs v us Q I rx rxs h
  obtain ⟨p, ys, z, rfl, rfl, hs, q⟩ := h
  cases rx
  obtain ⟨u, rfl, ru⟩ := rxs.one
  obtain ⟨t, rfl⟩ := ru
  obtain ⟨its, rv, pl, hlen⟩ := I.list hs
  exact count_list_strs pl.isList (strsAre_of rv) ⟨.int _, H, I.tok _, ⟨_, rfl⟩, q⟩
/-! ### repr of what is flat -/
def reprV : V → Option Str
  | .int i => some (toString i)
  | .bl b => some (if b then "True" else "False")
  | .non => some "None"
  | .str z => some (reprText z)
  | _ => none
def rRepr (xs : List V) (H : Hp) (Q : VK) : Prop := ∃ v z, xs = [v] ∧ reprV v = some z ∧ (∀ i, v = .int i → i.natAbs.log2 < 1920) ∧ (∀ y, v = .str y → (reprText y).length ≤ sizeLine) ∧ Q (.str z) H
theorem call_reprF : CallR X (.builtin "repr") rRepr := by
  intro pins s σ H xs us Q I r h
  obtain ⟨v, z, rfl, hz, hi, hs, q⟩ := h
  obtain ⟨u, rfl, hu⟩ := vals1 r
  cases v with
  | int i =>
    obtain ⟨t, rfl⟩ := hu
    cases hz
    exact PySem.P.repr_of_int (hi i rfl) ⟨.str _, H, I.tok _, ⟨_, rfl⟩, q⟩
  | bl b =>
    cases (show u = Value.bool b from hu)
    cases hz
    exact PySem.P.repr_of_bool ⟨.str _, H, I.tok _, ⟨_, rfl⟩, q⟩
  | non =>
    cases (show u = Value.none from hu)
    cases hz
    exact PySem.P.repr_of_none ⟨.str _, H, I.tok _, ⟨_, rfl⟩, q⟩
  | str y =>
    obtain ⟨t, rfl⟩ := hu
    cases hz
    exact PySem.P.repr_of_str ⟨.str _, H, I.tok _, ⟨_, rfl⟩, q⟩ (hs y rfl)
  | byt b => cases hz
  | flt b => cases hz
  | ref a => cases hz
  | ty n => cases hz
end
end OO

/-! enumerate of a tuple. -/
namespace OO
open PySem PySem.Sem
open AutoSeq1 (wpAny_loadPart')
theorem meets_enumerate_newT (l : Addr) (items : Array Value) (n : Nat) (dct : Option Addr) (sl : Array (Option Value)) :
    Meets (Builtin.«enumerate.__new__» ⟨[.type "enumerate", .ref l], []⟩) (fun _ R s => s.heap.get? l = some { cls := .type "tuple", dict := dct, data := .seq items n, slots := sl } ∧
      R (.ok (.ret (.ref (s.heap.push { cls := .type "tuple_iterator", data := .fields #[.ref l, .int 0 0] }).objs.size)))
        { s with heap := (s.heap.push { cls := .type "tuple_iterator", data := .fields #[.ref l, .int 0 0] }).push { cls := .type "enumerate", data := .fields #[.none, .bool false, .ref s.heap.objs.size, rawInt 0, .none, .none] } }) :=
  .of_wp fun prog w A R s h => by
    obtain ⟨hp, g, d, tk, os⟩ := s; obtain ⟨hl, h⟩ := h
    have hsub := sub_enumerate
    have hL : Heap.IsTuple (Shared.heap ⟨hp, g, d, tk, os⟩) l items := ⟨_, hl, rfl, n, rfl⟩
    wp_walk using wpAny_loadPart' hl
    refine wpAny_stack_any fun st => wpAny_pure ?_
    split
    · rename_i c _ _ _ _ _
      cases (c == Value.type "enumerate")
      · wp_walk using wpAny_loadPart' hl, wpAny_pyIter_tuple hL
        exact ⟨_, rfl, h⟩
      · wp_walk using wpAny_loadPart' hl, wpAny_pyIter_tuple hL
        exact ⟨_, rfl, h⟩
    · wp_walk using wpAny_loadPart' hl, wpAny_pyIter_tuple hL
      exact ⟨_, rfl, h⟩
theorem call_enumerate_tuple {prog : Program} {w : World} {A : Around} {E : Value → Shared → Prop} {s : Shared} {l : Addr} {items : Array Value} {Q : Value → Shared → Prop} (hL : s.heap.IsTuple l items)
    (h : ∀ h', IsEnum h' (s.heap.objs.size + 1) s.heap.objs.size 0 .none → h'.IsTupleIter s.heap.objs.size l 0 → h'.objs.size = s.heap.objs.size + 2 →
      (∀ b o, s.heap.get? b = some o → h'.get? b = some o) → Q (.ref (s.heap.objs.size + 1)) { s with heap := h' }) :
    wpAny (model prog w) A (call (.type "enumerate") [.ref l]) Q E s := by
  obtain ⟨⟨c, dct, dt, sl⟩, hl, hc, n, hd⟩ := hL
  replace hc : c = .type "tuple" := hc
  replace hd : dt = .seq items n := hd
  subst hc hd
  refine callType_new F.called_enumerate (by decide) (F.typeCall_enumerate_1 _) (F.newCall_enumerate_1 _) (fun obj => F.args_object_init_2 obj _) F.entry_enumerate_new
    (meets_enumerate_newT l items n dct sl) ⟨hl, ?_⟩
  have hz : (s.heap.push { cls := .type "tuple_iterator", data := .fields #[.ref l, .int 0 0] }).objs.size = s.heap.objs.size + 1 := Heap.size_push ..
  show _ ∧ _
  rw [hz]
  have he : IsEnum ((s.heap.push { cls := .type "tuple_iterator", data := .fields #[.ref l, .int 0 0] }).push
      { cls := .type "enumerate", data := .fields #[.none, .bool false, .ref s.heap.objs.size, rawInt 0, .none, .none] }) (s.heap.objs.size + 1) s.heap.objs.size 0 .none := by
    have := Heap.get?_push_size (s.heap.push { cls := .type "tuple_iterator", data := .fields #[.ref l, .int 0 0] })
      (o := { cls := .type "enumerate", data := .fields #[.none, .bool false, .ref s.heap.objs.size, rawInt 0, .none, .none] }) rfl
    rw [hz] at this; exact this
  refine ⟨⟨_, he, rfl⟩, h _ he ⟨_, Heap.get?_push_of_some _ (Heap.get?_push_size _ rfl), rfl, rfl⟩ (by rw [Heap.size_push, hz]) fun b o x => Heap.get?_push_of_some _ (Heap.get?_push_of_some _ x)⟩
end OO
namespace OO
open PySem PySem.Spec PyProof.Rows L2
/-- the tuple at a, each item in a new pair -/
def IteT (K : PySem.W.Frag) (a : Addr) : It :=
  ⟨fun i H => ∃ (xs : List V) (x : V), SqT K H a xs ∧ xs[i]? = some x, fun i H v H' => ∃ T x, v = .ref T ∧ H T = none ∧ H' = upd H T (.tup [.int (i : Nat), x]) ∧ ∀ xs, SqT K H a xs → xs[i]? = some x, fun i H => ∃ xs : List V, SqT K H a xs ∧ xs.length ≤ i⟩
theorem tupIter_ne {h : Heap} {a it : Addr} {i : Nat} {its : Array Value} (p : h.IsTuple a its) (q : h.IsTupleIter it a i) : a ≠ it := fun z => by
  obtain ⟨o, ho, hc, _⟩ := p
  obtain ⟨o2, ho2, hc2, _⟩ := q
  rw [z, ho2] at ho
  have := Option.some.inj ho
  subst this
  rw [hc2] at hc
  exact absurd hc (by decide)
theorem enum_ne {h : Heap} {a e it : Addr} {i : Int} {old : Value} {its : Array Value} (p : h.IsTuple a its) (q : IsEnum h e it i old) : e ≠ a := fun z => by
  obtain ⟨o, ho, hc, _⟩ := p
  rw [← z, q] at ho
  have := Option.some.inj ho
  subst this
  exact absurd (Value.type.inj hc) (by decide)
theorem turn_enumT {P : Program} {w : World} {K : PySem.W.Frag} {elts : List Expr} {kk : Nat} {tpos : Pos} (a e it : Addr) :
    Turn P w K (.Tuple elts kk tpos) (IteT K a) [e, it] e (fun i h => (∃ old, IsEnum h e it ((i : Nat) : Int) old) ∧ h.IsTupleIter it a i ∧ e ≠ it) where
  mem := by simp
  obj := fun i h st b hb => by
    obtain ⟨⟨old, he⟩, ⟨o, ho, hc, hd⟩, _⟩ := st
    have e' : b = e ∨ b = it := by simpa using hb
    rcases e' with z | z
    · rw [z]; exact ⟨_, he, fun v q => nomatch q⟩
    · rw [z]; exact ⟨o, ho, fun v q => by rw [hd] at q; cases q⟩
  keep := fun i h h' st k => let ⟨⟨old, he⟩, hi, hne⟩ := st; ⟨⟨old, k e (by simp) _ he⟩, hi.at fun o q => k it (by simp) o q, hne⟩
  item := by
    intro X hP hw hK hc i pins s σ H E I hf st hg
    subst hP hw hK
    obtain ⟨⟨old, he⟩, hit, hne⟩ := st
    obtain ⟨xs, x, hq, hx⟩ := hg
    obtain ⟨its, rv, p, hz⟩ := I.tuple hq
    obtain ⟨u, hu, ru⟩ := rv.get hx
    have hel : e < s.heap.objs.size := Heap.lt_size he
    have hil : it < s.heap.objs.size := by obtain ⟨_, q, _⟩ := hit; exact Heap.lt_size q
    have hat := tupIter_ne p hit
    have hlt : i < its.toArray.size := by
      have := (List.getElem?_eq_some_iff.mp hu).1
      simpa using this
    refine wpAny_pyNext_enum_itemD (Draws.tuple (A := X.A.in1) (show X.A.in1.handled = none from I.ok.hd hc) it a hat its.toArray) he ⟨hit, p⟩ hlt hne (by
      have := enum_ne p he
      simp [hne, this]) fun x' h' tk hx' ho st' hT hsz hk => ?_
    have hit' := st'.1
    have ex : x' = u := by
      have h1 : its[i]? = some x' := by simpa using hx'
      exact Option.some.inj (h1.symm.trans hu)
    subst ex
    refine ⟨_, rfl, wpAny_letOwnedTupleGo_enum (s := { s with heap := h', toks := tk + 1 }) ho fun h'' he' sb => ?_⟩
    have hT2 : h''.get? s.heap.objs.size = some { cls := .type "tuple", data := .seq #[.int i tk, x'] } := (sb.2 _ (Nat.ne_of_gt hel)).trans hT
    have new : ObjOk X.prog X.w (upd H s.heap.objs.size (.tup [.int (i : Nat), x])) h'' s.heap.objs.size (.tup [.int (i : Nat), x]) :=
      ⟨by show 2 ≤ sizeLine; decide, [.int i tk, x'], .cons ⟨_, rfl⟩ (.cons ru .nil), ⟨_, hT2, rfl, _, rfl⟩⟩
    have I1 : Inv X pins σ (upd H s.heap.objs.size (.tup [.int (i : Nat), x])) { s with heap := h'', toks := tk + 1 } :=
      I.turnedNew (ch := [e, it]) (fun b ob hb q => (sb.2 b (fun z => hb (by simp [z]))).trans (hk b ob (fun z => hb (by simp [z])) (fun z => hb (by simp [z])) q)) hf (Nat.le_refl _) new
    refine ⟨.ref s.heap.objs.size, _, I1, rfl, ⟨_, x, rfl, I.hok.fresh (Nat.le_refl _), rfl, fun ys hy => by rw [I.tuple_inj hy hq]; exact hx⟩, ⟨⟨x', ?_⟩, hit'.at fun o q => (sb.2 it (Ne.symm hne)).trans q, hne⟩, fun b hb => ?_⟩
    · have e1 : ((i + 1 : Nat) : Int) = (i : Int) + 1 := by omega
      rw [e1]; exact he'
    · have hb' : b < s.heap.objs.size := by
        have e' : b = e ∨ b = it := by simpa using hb
        rcases e' with z | z
        · rw [z]; exact hel
        · rw [z]; exact hil
      rw [upd_ne (Nat.ne_of_lt hb')]
      exact (hf b hb).1
  done := by
    intro X hP hw hK hc i pins s σ H E I hf st hg
    subst hP hw hK
    obtain ⟨⟨old, he⟩, hit, hne⟩ := st
    obtain ⟨xs, hq, hx⟩ := hg
    obtain ⟨its, rv, p, hz⟩ := I.tuple hq
    obtain ⟨f0, f1, f2, f3, f4, f5⟩ := hf it (by simp)
    have hl := rv.length
    have hat := tupIter_ne p hit
    have hh : X.A.in1.handled = none := I.ok.hd hc
    have hT : s.TypeIs (.ref e) "enumerate" := ⟨_, he, rfl⟩
    show wpAny _ _ (pyNext (.ref e)) _ _ _
    unfold pyNext
    refine wpAny_bind (wpAny_attempt (wpAny_callSpecial?_slot (name := Str.ofString "__next__") hT F.slot_enumerate_next
      (wpAny_call_entry F.slot_enumerate_next hT F.entry_enumerate_next ?_ (F.args_enumerate_next_1 _))))
    show wpAny _ _ (field (.ref e) 2 >>= _) _ _ _
    refine wpAny_bind (wpAny_field he rfl (x := .ref it) rfl ?_)
    refine wpAny_bind (wpAny_nextOf_tuple_end hh hit p (by simp; omega) fun h' x eb hx' => ?_)
    obtain ⟨o, ho, hcl⟩ := hx'
    refine wpAny_bind (wpAny_isInstance (T := "StopIteration") (b := true) ⟨o, ho, hcl⟩ isSubtype_stop ?_)
    exact wpAny_pure ⟨rfl, I.turned (t' := s.toks) (fun b o hb q => eb b o hb q) f0 f1 f3 f4 f5⟩
  self := fun A i s Q E st h => let ⟨⟨_, he⟩, _⟩ := st; wpAny_pyIter_enum he h
def iEnumT (K : PySem.W.Frag) (ta : TA) : TI := fun σ H R => ta σ H fun vs H1 => ∃ a xs, vs = [.ref a] ∧ SqT K H1 a xs ∧ R (IteT K a) H1
theorem pi_enumT {X : Cx} {e : Expr} {ta : TA} {p pos tpos : Pos} {elts : List Expr} {kk : Nat} (hg : Gl X "enumerate") (hm : X.mg "enumerate" = none) (ha : PA X [e] ta) (hs : starEach [e] X.env = [(false, eval e X.env)] := by rfl) :
    PI X (.Tuple elts kk tpos) (.Call (.Name "enumerate" p) [e] [] pos) (iEnumT X.K ta) := by
  refine ⟨fun pins s σ H R I h => ?_⟩
  refine Call_ (ld_blt I hg hm boot_enumerate (PyProof.Rows.callWith_type1 (thn (ha.run pos pins s σ H _ I h) fun us s1 ⟨vs, H1, I1, r1, q1⟩ => ?_) hs rfl))
  obtain ⟨a, xs, ex, hq, q⟩ := q1
  subst ex
  cases r1 with
  | cons r rr =>
    cases rr
    cases r
    obtain ⟨its, rv, p', hz⟩ := I1.tuple hq
    refine call_enumerate_tuple p' fun h' he hit hsz hk => wpAny_pyIter_enum he ?_
    have I2 : Inv X pins σ H1 { s1 with heap := h' } := I1.kept (t' := s1.toks) hk
    refine ⟨s1.heap.objs.size + 1, [s1.heap.objs.size + 1, s1.heap.objs.size], _, _, H1, rfl, I2, turn_enumT a (s1.heap.objs.size + 1) s1.heap.objs.size, ⟨⟨.none, he⟩, hit, Nat.succ_ne_self _⟩, fun b hb => ?_, q⟩
    have e' : b = s1.heap.objs.size + 1 ∨ b = s1.heap.objs.size := by simpa using hb
    have hle : s1.heap.objs.size ≤ b := by
      rcases e' with z | z
      · rw [z]; exact Nat.le_add_right _ _
      · rw [z]; exact Nat.le_refl _
    exact I1.fpOk hle (I1.hok.fresh hle)
theorem walk_enumT {K : PySem.W.Frag} {a : Addr} {xs : List V} : Walk (IteT K a) xs.length (fun H => SqT K H a xs) (YPair (fun i => some (.int (i : Nat))) (fun i => xs[i]?)) := by
  refine ⟨fun i _ hi q => ⟨xs, xs[i], q, by simp [hi]⟩, fun _ q => ⟨xs, q, Nat.le_refl _⟩, fun i H v H' _ q y => ?_⟩
  obtain ⟨T, x, h1, h2, h3, h4⟩ := y
  exact ⟨T, .int (i : Nat), x, h1, h2, h3, rfl, h4 xs q⟩
end OO

/-! Error classes of a program's own that store what they are made of: made and raised, their field read off where they are caught. -/
namespace OO
open PySem PySem.Spec PyProof.Rows L2 GG
structure ExT (K : PySem.W.Frag) (mg : Str → Option Value) (nm fld : Str) (S fI : Addr) : Prop where
  g : mg nm = some (.ref S)
  o : OexC K S
  no : PySem.W.findIn K (.ref S) fld = some none
  x : XfC K S
  i : PySem.W.findIn K (.ref S) "__init__" = some (some (.ref fI))
  t : PySem.W.typeIn K (.ref fI) = some (.type "function")
  te : PySem.W.exmOne K (.ref S) (.ref S) = some true
def spExI (S : Addr) (fld : Str) : Sp := fun vs H Q _ => ∃ (a : Addr) (v : V), vs = [.ref a, v] ∧ H a = some (exo a S none) ∧ ∀ dx, H dx = none → dx ≠ a → Q .non (upd (upd H dx (exd dx [(fld, v)])) a (exo a S (some dx)))
theorem mko {S : Addr} {fld : Str} {v : V} {H1 : Hp} {Q : XK} (q : ∀ (d : Addr) (H' : Hp), H1 d = none → Same H1 H' → H' d = some (.xd [(fld, v)]) → Q (.ref S) (some d) H') :
    [v].length ≤ 1000 ∧ ∀ a, H1 a = none → spExI S fld (.ref a :: ([v] ++ [])) (upd H1 a (exo a S none))
      (fun v' H2 => v' = .non ∧ ∃ (d : Addr) (fs : List (Str × V)), H2 a = some (exo a S (some d)) ∧ H2 d = some (exd d fs) ∧ H1 d = none ∧ Q (.ref S) (some d) (upd (del H2 a) d (.xd fs))) (fun _ _ _ => False) := by
  refine ⟨by show 1 ≤ 1000; decide, fun a ha => ⟨a, v, rfl, upd_same, fun dx hdx hne => ?_⟩⟩
  have hd : H1 dx = none := by
    rw [upd_ne hne] at hdx
    exact hdx
  refine ⟨rfl, dx, [(fld, v)], upd_same, by rw [upd_ne hne]; exact upd_same, hd, q dx _ hd (fun b o e => ?_) upd_same⟩
  have h1 : b ≠ dx := ne_of_none e hd
  have h2 : b ≠ a := ne_of_none e ha
  rw [upd_ne h1, del_ne h2, upd_ne h2, upd_ne h1, upd_ne h2]
  exact e
/-- what is known of the class, in one fact for each part -/
theorem exT_of {K : PySem.W.Frag} {h : Heap} {mg : Str → Option Value} {nm fld : Str} {S fI : Addr} (X : K.In h) (G : h.Ns mainGlobals mg) {nn q : Str} {N : Addr} {bs bm : List Value} {sn : List Str} {sub : List Value} {ab : Bool} {col : Option Bool} {dd : Option Addr} {k0 k1 k2 k3 k5 : Option Value}
    (a : PySem.W.nsIn K mainGlobals nm = some (some (.ref S))) (l : K.lookup S = some (excClassObj nn q S N bs bm true sn sub ab col dd k0 k1 k2 k3 k5 "ValueError.__new__")) (hb : PySem.HandSPX.refsVE bm = true)
    (sa : PySem.W.findIn K (.ref S) "__setattr__" = some (some (.builtin "object.__setattr__"))) (ex : PySem.W.subIn K (.ref S) (.type "BaseException") = some true) (ty : PySem.W.typeIn K (.ref S) = some (.type "type")) (kp : PySem.W.keepIn K (.ref S) = true)
    (no : PySem.W.findIn K (.ref S) fld = some none) (ga : PySem.W.findIn K (.ref S) "__getattribute__" = some (some (.builtin "BaseException.__getattribute__"))) (gg : PySem.W.findIn K (.ref S) "__getattr__" = some none) (hd : PySem.W.hasDictIn K S = true)
    (i : PySem.W.findIn K (.ref S) "__init__" = some (some (.ref fI))) (t : PySem.W.typeIn K (.ref fI) = some (.type "function")) (ic : PySem.W.isClsIn K S = true) (ss : PySem.W.subIn K (.ref S) (.ref S) = some true) : ExT K mg nm fld S fI where
  g := PySem.W.mg_of X G a
  o := ⟨⟨_, _, _, _, _, _, _, _, _, _, _, _, _, _, _, l, hb⟩, sa, ex, ty, kp⟩
  no := no
  x := ⟨ga, gg, ex, hd⟩
  i := i
  t := t
  te := by
    have e1 : (PySem.W.subIn K (.ref S) (.type "BaseException") == some true) = true := by rw [ex] <;> rfl
    have e2 : ((PySem.W.clsIn K S).isSome && PySem.W.typeIn K (.ref S) == some (.type "type")) = true := by
      have h2' : (PySem.W.clsIn K S).isSome = true := ic
      rw [h2', ty] <;> rfl
    show (if (PySem.W.subIn K (.ref S) (.type "BaseException") == some true) = true then (if ((PySem.W.clsIn K S).isSome && PySem.W.typeIn K (.ref S) == some (.type "type")) = true then PySem.W.subIn K (.ref S) (.ref S) else none) else none) = some true
    rw [if_pos e1, if_pos e2]
    exact ss
/-- at x: an instance of the class at C with such attributes -/
def At (C : Addr) (H : Hp) (x : Addr) (fs : List (Str × V)) : Prop := ∃ dx, H x = some (.ins C dx fs)
theorem At.same {C : Addr} {H H' : Hp} {x : Addr} {fs : List (Str × V)} (h : At C H x fs) (s : Same H H') : At C H' x fs := by
  obtain ⟨dx, h⟩ := h
  exact ⟨dx, s _ _ h⟩
end OO

/-! Defs with a star parameter as they stand in the text. -/
namespace OO
open PySem PySem.Spec PyProof.Rows L2 GG
/-! ### data apart from an object that is changed -/
theorem rd_keep {x : Addr} {H H' : Hp} {C dx : Addr} {fs : List (Str × V)} (k : Keep x H H') (hx : H x = some (.ins C dx fs)) {a : Addr} {o : HO} (ho : ∀ C dx fs, o ≠ .ins C dx fs) (h : Rd H a o) : Rd H' a o := by
  rcases h with h | ⟨u, h⟩
  · refine .inl (k a (fun e => ?_) _ h)
    rw [e, hx] at h
    exact ho _ _ _ (Option.some.inj h).symm
  · refine .inr ⟨u, k a (fun e => ?_) _ h⟩
    rw [e, hx] at h
    cases h
mutual
theorem dp_keep {K : PySem.W.Frag} {x : Addr} {H H' : Hp} {C dx : Addr} {fs : List (Str × V)} (k : Keep x H H') (hx : H x = some (.ins C dx fs)) : ∀ (d : PyData) (v : V), Dp K H v d → Dp K H' v d
  | .none, _, h => by cases h; exact .non
  | .bool b, _, h => by cases h; exact .bl b
  | .int i, _, h => by cases h; exact .int i
  | .str z, _, h => by cases h; exact .str z
  | .list ds, _, h => by
    cases h with
    | lst hs ha => exact .lst (hs.elim (fun z => .inl (rd_keep k hx (fun _ _ _ e => by cases e) z)) .inr) (dpAll_keep k hx ds _ ha)
  | .tuple ds, _, h => by
    cases h with
    | tup hs ha => exact .tup (hs.elim (fun z => .inl (rd_keep k hx (fun _ _ _ e => by cases e) z)) .inr) (dpAll_keep k hx ds _ ha)
  | .dict _, _, h => by cases h
theorem dpAll_keep {K : PySem.W.Frag} {x : Addr} {H H' : Hp} {C dx : Addr} {fs : List (Str × V)} (k : Keep x H H') (hx : H x = some (.ins C dx fs)) : ∀ (ds : List PyData) (vs : List V), DpAll K H vs ds → DpAll K H' vs ds
  | [], _, h => by cases h; exact .nil
  | d :: ds, _, h => by
    cases h with
    | cons h1 h2 => exact .cons (dp_keep k hx d _ h1) (dpAll_keep k hx ds _ h2)
end
theorem val_keep {K : PySem.W.Frag} {x : Addr} {H H' : Hp} {C dx : Addr} {fs : List (Str × V)} {v : V} {d : PyData} (h : Val K H v d) (k : Keep x H H') (hx : H x = some (.ins C dx fs)) : Val K H' v d := by
  rcases h with ⟨h, g⟩ | ⟨rfl, a, kvs, rfl, h⟩
  · exact .inl ⟨dp_keep k hx d v h, g⟩
  · refine .inr ⟨rfl, a, kvs, rfl, k a (fun e => ?_) _ h⟩
    rw [e, hx] at h
    cases h
/-- the promise of a def f(a, .., *v), told of its positional arguments; the tuple of what is left over is known as the object it is -/
def spStar (n : Nat) (sp : Sp) : Sp := fun vs H Q E => ∃ ws rest, vs = ws ++ rest ∧ ws.length = n ∧ rest.length ≤ sizeLine ∧ ∀ (p : Addr) (ob : Obj), H p = none → ob.cls = .type "tuple" → ob.dict = none → sp (ws ++ [V.ref p]) (upd H p (.frz ob (.tup rest))) Q E
section
variable {P : Program} {w : World} {K : PySem.W.Frag} {mg : Str → Option Value} {base : Heap}
/-- a def whose arguments beyond the first ones go into a tuple, by the facts of its record -/
theorem star_raw {CX : CXT} {k : Nat} {f : Addr} {nm ql : Str} {pa : Arguments} {bd : List Stmt} {sc : Scope} {v1 v2 v3 v4 v5 v6 v7 : Value} {o1 o2 : Option Addr} {sl : Array (Option Value)} {N qs : List Str} {sp : Sp} {pv : Str}
    (hl : K.lookup f = some ⟨v7, o2, .func (PySem.W.fnOf nm ql pa bd sc v1 v2 v3 v4 o1 v5 v6), sl⟩) (hc : PySem.W.codeIn K v5 ql = true) (S : FnScope N (qs ++ [pv]) sc) (up : StX.CXUp CX)
    (hb : ∀ fst rst : List Value, fst.length = qs.length → bindArgs (PySem.W.fnOf nm ql pa bd sc v1 v2 v3 v4 o1 v5 v6) ⟨fst ++ rst, []⟩ = (newTuple rst >>= fun t => pure (qs.zip fst ++ [(pv, t)])))
    (body : ∀ (A : Around) (outer : List Env) (s : Shared) (H : Hp) (vs : List V) (Q : VK) (E : XK), Room k (A.deeper (envOfC ql sc s.heap.objs.size f v5)) → sp vs H Q E →
      ∃ t, PSs (cxOf CX P w K mg base N ql sc f v5 A outer s H E) bd t ∧ t { nx := fun _ H' => Q .non H', rt := Q } (start N vs) H) :
    FnR P w K mg base CX (k + 1) f (spStar qs.length sp) := by
  rintro A outer s H all _ Q E room e0 rel ⟨ws, rst, rfl, len, fits, want⟩
  obtain ⟨fst, snd, rfl, rel1, rel2⟩ := StX.vals_split rel
  have lfst : fst.length = qs.length := rel1.length.symm.trans len
  have fits2 : snd.length ≤ sizeLine := rel2.length ▸ fits
  have nw : H s.heap.objs.size = none := e0.hok.fresh (Nat.le_refl _)
  refine StX.run_bnd hl hc S room e0 (G := fun xs Hx => ∃ (p : Addr) (ob : Obj), H p = none ∧ ob.cls = .type "tuple" ∧ ob.dict = none ∧ xs = ws ++ [V.ref p] ∧ Hx = upd H p (.frz ob (.tup rst))) ?_ ?_
  · intro A' Ex Q' good
    rw [hb fst snd lfst]
    refine wpAny_bind (wpAny_newTuple (wpAny_pure ?_) fits2)
    have at_ : (s.heap.push ({ cls := .type "tuple", data := .seq snd.toArray } : Obj)).get? s.heap.objs.size = some ({ cls := .type "tuple", data := .seq snd.toArray } : Obj) := Heap.get?_push_size _ rfl
    have un := StX.un_laid (fs := frs outer) (s := s) (o := ({ cls := .type "tuple", data := .seq snd.toArray } : Obj)) (u := .frz ({ cls := .type "tuple", data := .seq snd.toArray } : Obj) (.tup rst)) nw
    have fine := good _ _ (ws ++ [V.ref s.heap.objs.size]) (fst ++ [Value.ref s.heap.objs.size]) (StX.env0_laid (u := .frz ({ cls := .type "tuple", data := .seq snd.toArray } : Obj) (.tup rst)) e0 ⟨at_, fits, snd, rel2, ⟨_, at_, rfl, _, rfl⟩⟩) un rfl
      (fun e s' => up outer s H _ _ E e s' un (fun _ _ z => Heap.get?_push_of_some _ z) rfl) (rel1.append (.cons rfl .nil)) (by simp only [List.length_append, List.length_singleton, len]) ⟨_, _, nw, rfl, rfl, rfl, rfl⟩
    rwa [List.zip_append lfst.symm] at fine
  · rintro s2 _ _ ⟨p, ob, np, hcl, hd, rfl, rfl⟩ room'
    exact body A outer s2 _ _ Q E room' (want p ob np hcl hd)
theorem Fun.star1 {CX : CXT} {x ql : Str} {st : Stmt} {f : Addr} {fd : FuncData} {N : List Str} {p1 pv : Str} {k : Nat} {sp : Sp} (F : Fun K x ql st f fd) (S : FnScope N [p1, pv] (defScope st)) (up : StX.CXUp CX)
    (h0 : ∀ (b c d : Value) (e : Option Addr) (g h u : Value), bindArgs (PySem.W.fnOf x ql (defArgs st) (defBody st) (defScope st) .none b c d e g h) ⟨[u], []⟩ = (newTuple [] >>= fun t => pure [(p1, u), (pv, t)]))
    (h1 : ∀ (b c d : Value) (e : Option Addr) (g h u r : Value) (rs : List Value), bindArgs (PySem.W.fnOf x ql (defArgs st) (defBody st) (defScope st) .none b c d e g h) ⟨u :: r :: rs, []⟩ = (newTuple (r :: rs) >>= fun t => pure [(p1, u), (pv, t)]))
    (body : ∀ (cd : Value) (A : Around) (outer : List Env) (s : Shared) (H : Hp) (vs : List V) (Q : VK) (E : XK), Room k (A.deeper (envOfC ql (defScope st) s.heap.objs.size f cd)) → sp vs H Q E →
      ∃ t, PSs (cxOf CX P w K mg base N ql (defScope st) f cd A outer s H E) (defBody st) t ∧ t { nx := fun _ H' => Q .non H', rt := Q } (start N vs) H) :
    FnR P w K mg base CX (k + 1) f (spStar 1 sp) := by
  obtain ⟨oc, od, b, c, d, e, g, h, osl, rfl, lk, hcd⟩ := F.ex
  exact star_raw (qs := [p1]) lk hcd S up (StX.bind_star1 (B := fun us => bindArgs (PySem.W.fnOf x ql (defArgs st) (defBody st) (defScope st) .none b c d e g h) ⟨us, []⟩) (h0 b c d e g h) (h1 b c d e g h)) (body g)
theorem Fun.star2 {CX : CXT} {x ql : Str} {st : Stmt} {f : Addr} {fd : FuncData} {N : List Str} {p1 p2 pv : Str} {k : Nat} {sp : Sp} (F : Fun K x ql st f fd) (S : FnScope N [p1, p2, pv] (defScope st)) (up : StX.CXUp CX)
    (h0 : ∀ (b c d : Value) (e : Option Addr) (g h u v : Value), bindArgs (PySem.W.fnOf x ql (defArgs st) (defBody st) (defScope st) .none b c d e g h) ⟨[u, v], []⟩ = (newTuple [] >>= fun t => pure [(p1, u), (p2, v), (pv, t)]))
    (h1 : ∀ (b c d : Value) (e : Option Addr) (g h u v r : Value) (rs : List Value), bindArgs (PySem.W.fnOf x ql (defArgs st) (defBody st) (defScope st) .none b c d e g h) ⟨u :: v :: r :: rs, []⟩ = (newTuple (r :: rs) >>= fun t => pure [(p1, u), (p2, v), (pv, t)]))
    (body : ∀ (cd : Value) (A : Around) (outer : List Env) (s : Shared) (H : Hp) (vs : List V) (Q : VK) (E : XK), Room k (A.deeper (envOfC ql (defScope st) s.heap.objs.size f cd)) → sp vs H Q E →
      ∃ t, PSs (cxOf CX P w K mg base N ql (defScope st) f cd A outer s H E) (defBody st) t ∧ t { nx := fun _ H' => Q .non H', rt := Q } (start N vs) H) :
    FnR P w K mg base CX (k + 1) f (spStar 2 sp) := by
  obtain ⟨oc, od, b, c, d, e, g, h, osl, rfl, lk, hcd⟩ := F.ex
  exact star_raw (qs := [p1, p2]) lk hcd S up (StX.bind_star2 (B := fun us => bindArgs (PySem.W.fnOf x ql (defArgs st) (defBody st) (defScope st) .none b c d e g h) ⟨us, []⟩) (h0 b c d e g h) (h1 b c d e g h)) (body g)
/-- t.m(e), t a tuple that is known as the object it is -/
def tTupM (r : V → List V → Hp → VK → Prop) (to : TE) (t : TA) : TE := fun σ H Q => to σ H fun x H1 => ∃ (p : Addr) (ob : Obj) (ys : List V), x = .ref p ∧ H1 p = some (.frz ob (.tup ys)) ∧ ob.cls = .type "tuple" ∧ ob.dict = none ∧ t σ H1 fun vs H2 => r x vs H2 Q
theorem pe_tupM {X : Cx} {nm : Str} {id : String} {r : V → List V → Hp → VK → Prop} {o e : Expr} {es : List Expr} {to : TE} {t : TA} {ap cp : Pos} (slot : Slot "tuple" nm id) (ty : typeOf (.builtin id) = pure (.type "method_descriptor")) (hm : MtR X id r) (ho : PE X o to) (ha : PA X (e :: es) t)
    (h1 : attributeBase o nm X.env (eval o X.env) = eval o X.env := by rfl)
    (h2 : ((backTo cp (starEach (e :: es) X.env)).all (fun x => !x.1) && (backToKw cp (keywordEach [] X.env)).all (fun x => x.1.isSome) && decide ((e :: es).length + ([] : List Keyword).length + (if ([] : List Keyword).isEmpty then 0 else 1) < 30)) = true := by rfl)
    (h3 : (ap.endLine == cp.line) = true := by rfl) (h4 : starEach (e :: es) X.env = (false, eval e X.env) :: starEach es X.env := by rfl) (h5 : (backTo cp (starEach es X.env)).any (·.1) = false := by rfl) :
    PE X (.Call (.Attribute o nm ap) (e :: es) [] cp) (tTupM r to t) := by
  refine ⟨fun pins s σ H Q I h => wpAny_Call_method_late h1 h2 h3 rfl (thn (ho.run pins s σ H _ I h) ?_)⟩
  rintro v s1 ⟨x, H1, I1, rx, p, ob, ys, rfl, hp, hcl, hd, q⟩
  cases (show v = Value.ref p from rx)
  obtain ⟨hg, _⟩ := (show ObjOk X.prog X.w H1 s1.heap p (.frz ob (.tup ys)) from I1.hok p _ hp)
  refine ⟨"tuple", id, PySem.F.plainAttrs_tuple, slot, ty, ⟨ob, hg, hcl⟩, fun a ea => ?_, ?_⟩
  · cases ea
    exact ⟨ob, hg, hd⟩
  have z := ha.run cp pins s1 σ H1 _ I1 q
  rw [h4] at z ⊢
  refine Calls.callWith_builtin (by show (false || (backTo cp (starEach es X.env)).any (·.1)) = false; rw [h5]; rfl) (Calls.evalArgs_plain (thn z ?_))
  rintro us s2 ⟨vs, H2, I2, rv, q2⟩
  exact hm pins s2 σ H2 (.ref p) vs (.ref p) us Q I2 rfl rv q2
/-- what is raised in a callee passes out of the def -/
theorem passX {X : Cx} {E : XK} (tk : Takes X (fun cls d _ H => E cls d H)) : Passes (L2.CX X.prog X.w) X E := passes_call tk fun _ _ _ _ h => h
end
end OO

/-! Promises of defs that are called where no object is being written out (A.guards = some []): so repr of containers may be asked. -/
namespace OO
open PySem PySem.Spec PyProof.Rows L2 TL GG
/-- as FnOk, where nothing is being written out -/
structure FnG (P : Program) (w : World) (K : PySem.W.Frag) (mg : Str → Option Value) (base : Heap) (CX : CXT) (k : Nat) (f : Addr) (fd : FuncData) (ps : List Str) (sp : Sp) : Prop where
  num : ∀ xs G R Y, sp xs G R Y → xs.length = ps.length
  go : ∀ (B : Around) (out : List Env) (st : Shared) (G : Hp) (as : Args) (ws : List Value) (xs : List V) (R : VK) (Y : XK), Room k B → B.guards = some [] → Env0 P w K mg base B out st G → BindsTo st fd as (ps.zip ws) → Vals xs ws →
    sp xs G R Y → codeAny (model P w) B (.call (.ref f) as) (CR CX out P w G st R Y) st
theorem FnOk.toG {P : Program} {w : World} {K : PySem.W.Frag} {mg : Str → Option Value} {base : Heap} {CX : CXT} {k : Nat} {f : Addr} {fd : FuncData} {ps : List Str} {sp : Sp} (F : FnOk P w K mg base CX k f fd ps sp) : FnG P w K mg base CX k f fd ps sp :=
  ⟨F.len, fun B out st G as ws xs R Y hr _ => F.run B out st G as ws xs R Y hr⟩
section
variable {P : Program} {w : World} {K : PySem.W.Frag} {mg : Str → Option Value} {base : Heap}
/-- the rule for a def, told of its body with the guards known -/
theorem Fun.okG {x qual : Str} {st : Stmt} {f : Addr} {fd : FuncData} {N ps : List Str} {k : Nat} {sp : Sp} (F : Fun K x qual st f fd) (S : FnScope N ps (defScope st)) (len : ∀ vs H Q E, sp vs H Q E → vs.length = ps.length)
    (body : ∀ (cdv : Value) (A : Around) (outer : List Env) (s : Shared) (H : Hp) (vs : List V) (Q : VK) (E : XK), Room k (A.deeper (envOfC qual (defScope st) s.heap.objs.size f cdv)) → A.guards = some [] → sp vs H Q E →
      ∃ t, PSs (cxOf CX0 P w K mg base N qual (defScope st) f cdv A outer s H E).nox (defBody st) t ∧ t { nx := fun _ H' => Q .non H', rt := Q } (start N vs) H) : FnG P w K mg base CX0 (k + 1) f fd ps sp := by
  obtain ⟨oc, od, kV, doc, pm, an, cdv, ct, osl, rfl, rec_, hcode⟩ := F.ex
  refine ⟨len, fun B out st1 G as ws xs R Y hr gd en bnd rel wish => ?_⟩
  have nn := len _ _ _ _ wish
  have inK : K.In st1.heap := en.mod.kin.keeps fun b o z => (en.bs b o z).1
  have room : st1.heap.NoLimit := en.mod.nolimit.keeps fun b o z => (en.bs b o z).1
  refine codeAny_call_function hr.depth (inK _ _ rec_) rfl S.co S.gen rfl (PySem.W.codeRec_of inK hcode) (bnd _ _ _ _ ?_)
  refine wpAny_newFunctionEnv_cells S.kind (fun ⟨n, v⟩ hy => (S.par n (List.of_mem_zip hy).1).imp id fun q => ⟨q, PySem.W.cellsFrom_some _ _ _ (.inl q)⟩) fun env henv st2 inside => ?_
  subst henv
  refine ⟨room.keeps inside.toInCall.keep, codeAny_func ?_⟩
  obtain ⟨t, runs, asked⟩ := body cdv B out st1 G xs R Y (hr.deeper _) gd wish
  have J0 : Inv (cxOf CX0 P w K mg base N qual (defScope st) f cdv B out st1 G Y) [] (start N xs) G st2 := inv_start S hr.hd en nn rel inside
  refine wpAny_mono (runs.nox.run [] st2 (start N xs) G _ J0 asked) (fun way st3 told => ?_) fun _ _ z => z
  cases way with
  | brk =>
    obtain ⟨_, _, _, no⟩ := told
    exact no.elim
  | cont =>
    obtain ⟨_, _, _, no⟩ := told
    exact no.elim
  | next =>
    obtain ⟨σ2, G2, J, z⟩ := told
    exact ⟨V.non, G2, J.os, J.bare, J.base, J.hok, rfl, z⟩
  | ret u =>
    obtain ⟨v, σ2, G2, J, ru, z⟩ := told
    exact ⟨v, G2, J.os, J.bare, J.base, J.hok, ru, z⟩
end
section
variable {X : Cx} {CX : CXT} {k : Nat} {f : Addr} {fd : FuncData} {ps : List Str} {sp : Sp} {x : Str} {p pos : Pos} {e : Expr} {es : List Expr} {t : TA}
theorem run_fnG {pins : List (Addr × Obj)} {σ : L2.St} {H : Hp} {s : Shared} {Q : VK} {us : List Value} {vs : List V} {E : XK} (F : FnG X.prog X.w X.K X.mg X.base CX k f fd ps sp) (gd : X.A.guards = some []) (hr : Room k X.A) (hb : Binds X.K fd ps []) (hx : Passes CX X E)
    (I : Inv X pins σ H s) (r : Vals vs us) (h : sp vs H Q E) : wpAny (model X.prog X.w) X.A (call (.ref f) us) (EP X pins σ Q) X.xe s := by
  have num : (us ++ []).length = ps.length := by rw [List.append_nil, ← r.length]; exact F.num _ _ _ _ h
  refine wpAny_call (codeAny_mono (F.go X.A X.stack s H ⟨us, []⟩ (us ++ []) vs Q E hr gd I.env0 (hb s us I.kIn num) (by rw [List.append_nil]; exact r) h) fun way s' told => ?_)
  rcases way with er | fl
  · exact hx pins σ H s er s' I told
  · cases fl <;> first | exact I.after told | exact told.elim
theorem pe_callG {E : XK} (F : FnG X.prog X.w X.K X.mg X.base CX k f fd ps sp) (gd : X.A.guards = some []) (hr : Room k X.A) (hg : Gl X x) (hm : X.mg x = some (.ref f)) (hk : PySem.W.keepIn X.K (.ref f) = true) (hb : Binds X.K fd ps []) (hx : Passes CX X E)
    (ha : PA X (e :: es) t) (hdb : (x == ("__debug__" : Str)) = false := by decide) (he : starEach (e :: es) X.env = (false, eval e X.env) :: starEach es X.env := by rfl) (hpl : (backTo pos (starEach es X.env)).any (·.1) = false := by rfl) :
    PE X (.Call (.Name x p) (e :: es) [] pos) ((fun σ H Q => t σ H fun vs H1 => sp vs H1 Q E)) := by
  refine ⟨fun pins s σ H Q I h => ?_⟩
  refine wpAny_Call_Name_kw (ld_glob I hg hm ?_ hdb)
  exact PySem.W.callWith_K (h₀ := X.base) I.ok.mod.kin hk (thn (ha.run pos pins s σ H _ I h) fun us s1 ⟨vs, H1, I1, r, q⟩ => ⟨I1.kIn, run_fnG F gd hr hb hx I1 r q⟩) he hpl
/-- repr of data, of an empty dict -/
def rReprD (K : PySem.W.Frag) (xs : List V) (H : Hp) (Q : VK) : Prop := (∃ v d, xs = [v] ∧ Dp K H v d ∧ d.showable = true ∧ d.shown.length ≤ sizeLine ∧ d.depth ≤ 60 ∧ Q (.str d.shown) H) ∨ ∃ a, xs = [.ref a] ∧ H a = some (.dK []) ∧ Q (.str "{}") H
end
end OO

namespace OO
open PySem PySem.Spec PyProof.Rows L2 TL GG
/-- a list, known as the object it is: the law's script -/
def SqE (K : PySem.W.Frag) (H : Hp) (a : Addr) (xs : List V) : Prop := (∃ ob, H a = some (.frz ob (.lst xs))) ∨ ∃ (vs : List Value) (n : Nat), K.lookup a = some { cls := .type "list", data := .seq vs.toArray n } ∧ Vals xs vs ∧ xs.length ≤ sizeLine
/-- script + [..] -/
def rCatE (K : PySem.W.Frag) : R2 := fun x y H Q => ∃ (l b : Addr) (xs zs : List V), x = .ref l ∧ y = .ref b ∧ SqE K H l xs ∧ H b = some (.lst zs) ∧ xs.length + zs.length ≤ sizeLine ∧ ∀ p, H p = none → Q (.ref p) (upd H p (.lst (xs ++ zs)))
theorem op_catE {X : Cx} : OpR X (binaryOp .Add) (rCatE X.K) := by
  intro pins s σ H x y v u Q I rx ry h
  obtain ⟨l, b, xs, zs, rfl, rfl, hE, hB, hz, q⟩ := h
  cases rx
  cases ry
  obtain ⟨its, n, r, e⟩ : ∃ (its : List Value) (n : Nat), Vals xs its ∧ s.heap.get? l = some { cls := .type "list", data := .seq its.toArray n } := by
    rcases hE with ⟨ob, hf⟩ | ⟨vs, n, hk, rv, _⟩
    · obtain ⟨_, _, its, n, rv, here⟩ := (show ObjOk X.prog X.w H s.heap l (.frz ob (.lst xs)) from I.hok l _ hf)
      exact ⟨its, n, rv, here⟩
    · exact ⟨vs, n, rv, I.kIn _ _ hk⟩
  obtain ⟨z2, its2, n2, r2, hl2, e2⟩ := I.lstM hB
  refine PySem.P.add_list e e2 ?_ (by rw [List.size_toArray, List.size_toArray, ← r.length, ← r2.length]; exact hz)
  have both : its.toArray ++ its2.toArray = (its ++ its2).toArray := by simp
  rw [both]
  exact ⟨.ref _, _, I.lnew (t' := s.toks) (r.append r2) (by rw [List.length_append]; exact hz), rfl, q _ I.fresh⟩
/-- what is tracked ahead of the law: its script, where the written part doesn't hold it -/
def H1st (K : PySem.W.Frag) (a : Addr) (vs : List Value) (ns : List Int) : Hp := fun b => if b = a ∧ K.lookup a = none then some (.frz { cls := .type "list", data := .seq vs.toArray } (.lst (ns.map V.int))) else none
theorem h1st_cases (K : PySem.W.Frag) (a : Addr) (vs : List Value) (ns : List Int) (b : Addr) : H1st K a vs ns b = none ∨ (b = a ∧ K.lookup a = none ∧ H1st K a vs ns b = some (.frz { cls := .type "list", data := .seq vs.toArray } (.lst (ns.map V.int)))) := by
  unfold H1st
  by_cases h : b = a ∧ K.lookup a = none
  · exact .inr ⟨h.1, h.2, if_pos h⟩
  · exact .inl (if_neg h)
theorem law_goG {P : Program} {w : World} {K : PySem.W.Frag} {mg mb : Str → Option Value} {k : Nat} {fa a : Addr} {fd : FuncData} {x : Str} {sp : Sp} {st : Shared} {vs : List Value} {ns : List Int}
    (inK : K.In st.heap) (top : st.heap.Ns mainGlobals mg) (blt : st.heap.Ns builtinsNs mb) (boot : ∀ x : Str, x ≠ "__name__" → mb x = bootBuiltins x) (room : st.heap.NoLimit) (quiet : st.gens = #[])
    (here : st.heap.get? a = some { cls := .type "list", data := .seq vs.toArray }) (are : IntsAre vs ns) (len : ns.length ≤ sizeLine) (hr : Room k callerA)
    (F : ∀ base : Heap, K.In base → base.Ns mainGlobals mg → FnG P w K mg base CX0 k fa fd [x] sp) (bnd : ∀ (s : Shared) (u : Value), BindsTo s fd ⟨[u], []⟩ [(x, u)])
    (wish : ∀ H : Hp, SqL K H a (ns.map V.int) → SqE K H a (ns.map V.int) → sp [.ref a] H (fun v _ => v = .bl true) fun _ _ _ => False) :
    codeAny (model P w) callerA (.call (.ref fa) ⟨[.ref a], []⟩) (fun r s' => r = .ok (.ret (.bool true)) ∧ OldK st.heap s'.heap ∧ s'.os = st.os ∧ AllBare s'.gens) st := by
  have rel := vals_ints are
  have size := are.length
  have hS : SqL K (H1st K a vs ns) a (ns.map V.int) := by
    cases q : K.lookup a with
    | none => exact .inl (.inr ⟨{ cls := .type "list", data := .seq vs.toArray }, if_pos ⟨rfl, q⟩⟩)
    | some o =>
      have z := inK a o q
      rw [here] at z
      cases z
      exact .inr ⟨_, vs.toArray, _, q, rfl, rfl, rfl, by rw [List.size_toArray, size]; exact len, by simpa using rel⟩
  have hE : SqE K (H1st K a vs ns) a (ns.map V.int) := by
    cases q : K.lookup a with
    | none => exact .inl ⟨{ cls := .type "list", data := .seq vs.toArray }, if_pos ⟨rfl, q⟩⟩
    | some o =>
      have z := inK a o q
      rw [here] at z
      cases z
      exact .inr ⟨vs, _, q, rel, by rw [List.length_map]; exact len⟩
  have hok : HOk P w (H1st K a vs ns) st.heap := fun b u z => by
    rcases h1st_cases K a vs ns b with n | ⟨rfl, _, y⟩
    · rw [n] at z
      cases z
    · rw [y] at z
      cases z
      exact ⟨here, by rw [List.length_map]; exact len, vs, _, rel, here⟩
  have nsT : ∀ {b : Addr} {m : Str → Option Value}, st.heap.Ns b m → (hidT st.heap (H1st K a vs ns)).Ns b m := fun {b m} ⟨o, es, ep, e, d, r⟩ => ⟨o, es, ep, hidT_get e (by
    rcases h1st_cases K a vs ns b with n | ⟨rfl, _, _⟩
    · exact n
    · rw [here] at e
      cases e
      exact nomatch (show Data.seq vs.toArray _ = Data.dict es ep from d)), d, r⟩
  have inT : K.In (hidT st.heap (H1st K a vs ns)) := fun b o e => hidT_get (inK b o e) (by
    rcases h1st_cases K a vs ns b with n | ⟨rfl, n, _⟩
    · exact n
    · rw [n] at e
      cases e)
  have md : Mod K mg (hidT st.heap (H1st K a vs ns)) := ⟨inT, nsT top, ⟨mb, nsT blt, boot⟩, let ⟨mc, h1, h2⟩ := room; ⟨mc, nsT h1, h2⟩⟩
  have en : Env0 P w K mg (hidT st.heap (H1st K a vs ns)) callerA [] st (H1st K a vs ns) := ⟨rfl, md, fun b o e => of_hidT e, Nat.le_of_eq (hidT_size _ _), trivial, fun b hb => absurd (show b ∈ ([] : List Addr) from hb) (by simp), hok, AllBare.of_eq quiet⟩
  refine codeAny_mono ((F _ inT (nsT top)).go callerA [] st _ ⟨[.ref a], []⟩ [.ref a] [.ref a] _ _ hr rfl en (bnd st (.ref a)) (.cons rfl .nil) (wish _ hS hE)) fun way s' told => ?_
  rcases way with er | fl
  · exact told.elim
  · cases fl with
    | next => exact told.elim
    | brk => exact told.elim
    | cont => exact told.elim
    | ret u =>
      obtain ⟨v, H', os, bare, un, hok', rv, ev⟩ := told
      cases ev
      cases (show u = Value.bool true from rv)
      refine ⟨rfl, OldK.of_keep fun b o e => ?_, os, bare⟩
      rcases h1st_cases K a vs ns b with n | ⟨rfl, _, y⟩
      · exact un.keep b o e n (fun z => nomatch z) (by simp)
      · have z1 := (hok b _ y).1
        rw [e] at z1
        cases z1
        exact (hok' b _ (un.frzs b _ _ y)).1
theorem walk_G {l : PySem.W.OpenLaw} {n k : Nat} {q : Program} {loose : List Str} {XP : (Str → Option Value) → Heap → Prop} {YP : World → Heap → Prop} {d : DefRec} {K : Params → PySem.W.Frag} {sp : World → Sp} {x : Str}
    (hn : l.most = some n) (hn2 : n ≤ sizeLine) (hdf : d.params.defaults = []) (hr : Room k callerA) (hY : ∀ (w : World) (h : Heap), YP w h → (K w.params).In h)
    (F : ∀ (w : World) (mg : Str → Option Value) (fa : Addr) (h : Heap), (K w.params).In h → h.Ns mainGlobals mg → mg d.name = some (.ref fa) →
      ∃ fd : FuncData, (∀ (s : Shared) (u : Value), BindsTo s fd ⟨[u], []⟩ [(x, u)]) ∧ ∀ base : Heap, (K w.params).In base → base.Ns mainGlobals mg → FnG l.prog w (K w.params) mg base CX0 k fa fd [x] (sp w))
    (wish : ∀ (w : World) (H : Hp) (a : Addr) (ns : List Int), ns.length ≤ n → SqL (K w.params) H a (ns.map V.int) → SqE (K w.params) H a (ns.map V.int) → sp w [.ref a] H (fun v _ => v = .bl true) fun _ _ _ => False) :
    PySem.W.WalkO q loose XP YP l.row.toRowW d [] (fun f vs => PySem.call f vs) := by
  refine Att.attach_call hn hdf fun w s₀ st mg mb fa o pm cd doc a vs ns G Y ho hd hcd hmg hobj hints hlen hg => ?_
  obtain ⟨fd, hb, hF⟩ := F w mg fa _ (hY w _ Y) G.T.g hmg
  exact law_goG (hY w _ Y) G.T.g G.T.b G.T.builtins G.T.nolimit hg hobj hints (Nat.le_trans hlen hn2) hr hF hb fun H hS hE => wish w H a ns hlen hS hE
section
variable {X : Cx}
mutual
theorem dp_noDict {K : PySem.W.Frag} {H : Hp} : ∀ (d : PyData) (v : V), Dp K H v d → d.hasDict = false
  | .none, _, _ => by simp only [PyData.hasDict]
  | .bool _, _, _ => by simp only [PyData.hasDict]
  | .int _, _, _ => by simp only [PyData.hasDict]
  | .str _, _, _ => by simp only [PyData.hasDict]
  | .list ds, _, h => by
    cases h with
    | lst _ ha =>
      simp only [PyData.hasDict]
      exact dpAll_noDict ds _ ha
  | .tuple ds, _, h => by
    cases h with
    | tup _ ha =>
      simp only [PyData.hasDict]
      exact dpAll_noDict ds _ ha
  | .dict _, _, h => by cases h
theorem dpAll_noDict {K : PySem.W.Frag} {H : Hp} : ∀ (ds : List PyData) (vs : List V), DpAll K H vs ds → PyData.hasDictAll ds = false
  | [], _, _ => by simp only [PyData.hasDictAll]
  | d :: ds, _, h => by
    cases h with
    | cons h1 h2 => simp only [PyData.hasDictAll, dp_noDict d _ h1, dpAll_noDict ds _ h2, Bool.or_self]
end
/-- repr(x) of data -/
theorem call_reprD (gd : X.A.guards = some []) (hu : X.A.units + 65 < cLine) : CallR X (.builtin "repr") (rReprD X.K) := by
  intro pins s σ H xs us Q I r h
  rcases h with ⟨v, d, rfl, hd, hs, hz, hdp, q⟩ | ⟨a, rfl, hk, q⟩
  · obtain ⟨u, rfl, ru⟩ := vals1 r
    cases hd with
    | non =>
      cases (show u = Value.none from ru)
      exact PySem.P.repr_of_none ⟨.str _, H, I.tok _, ⟨_, rfl⟩, q⟩
    | bl b =>
      cases (show u = Value.bool b from ru)
      refine PySem.P.repr_of_bool ⟨.str _, H, I.tok _, ⟨_, rfl⟩, ?_⟩
      cases b <;> exact q
    | int i =>
      obtain ⟨t, rfl⟩ := ru
      have hi : i.natAbs.log2 < 1920 := by simpa [PyData.showable] using hs
      exact PySem.P.repr_of_int hi ⟨.str _, H, I.tok _, ⟨_, rfl⟩, q⟩
    | str y =>
      obtain ⟨t, rfl⟩ := ru
      exact PySem.P.repr_of_str ⟨.str _, H, I.tok _, ⟨_, rfl⟩, q⟩ hz
    | lst hl ha =>
      cases (show u = Value.ref _ from ru)
      obtain ⟨as, rd⟩ := Dp.reads I _ _ _ (.lst hl ha) rfl
      exact PySem.repr_of_reads' rd hs (PyData.noDict_hsm (dp_noDict _ _ (.lst hl ha))) gd (by omega) (fun _ _ z => z) (fun h' u tk hk => ⟨.str _, H, I.kept (t' := tk) hk, ⟨_, rfl⟩, q⟩) hz
    | tup hl ha =>
      cases (show u = Value.ref _ from ru)
      obtain ⟨as, rd⟩ := Dp.reads I _ _ _ (.tup hl ha) rfl
      exact PySem.repr_of_reads' rd hs (PyData.noDict_hsm (dp_noDict _ _ (.tup hl ha))) gd (by omega) (fun _ _ z => z) (fun h' u tk hk => ⟨.str _, H, I.kept (t' := tk) hk, ⟨_, rfl⟩, q⟩) hz
  · obtain ⟨u, rfl, ru⟩ := vals1 r
    cases (show u = Value.ref a from ru)
    obtain ⟨_, hne, vs, kv, o, es, ep, ho, ex, hd, _, pr, _⟩ := dk_of I.hok hk
    cases kv
    have he : es.toList = [] := by cases hes : es.toList with
      | nil => rfl
      | cons _ _ =>
        rw [hes] at pr
        cases pr
    have rd : Reads s.heap (.ref a) (.dict []) [a] := Reads.dict (as := []) (bs := []) (kvs := []) ho ex.1 hd (by rw [he]; exact .nil) (by rw [he]; exact .nil)
    exact PySem.repr_of_reads' rd rfl (fun _ hm => by
      rcases List.mem_cons.mp hm with e | e
      · rw [← e] at hne
        exact absurd (beq_self_eq_true _) (by rw [hne]; exact Bool.false_ne_true)
      · exact nomatch e) gd (by show X.A.units + (PyData.depth (.dict []) + 1) < cLine; have : PyData.depth (.dict []) ≤ 2 := (by decide +kernel); omega) (fun _ _ z => z) (fun h' u tk hk => ⟨.str _, H, I.kept (t' := tk) hk, ⟨_, rfl⟩, q⟩) (by decide +kernel)
end
end OO

/-! Operators of a program's own objects: ==, !=, in, not in, [] by their own methods. -/
namespace PySem.W
open PySem PySem.Calls PyProof.Rows Builtin
section
variable {prog : Program} {w : World} {A : Around} {E : Value → Shared → Prop} {s : Shared} {K : Frag} {x C f : Addr} {ox : Obj} {od : Option Obj} {b tb : Value}
/-- a built-in method of the class, bound where it is there -/
theorem boundB {M : Model} {name : Str} {id : String} {args : List Value} {Q : Option Value → Shared → Prop} (X : K.In s.heap) (I : InstAt s.heap x ox C od) (there : findIn K (.ref C) name = some (some (.builtin id))) (bnd : ∀ self, bindSpecial (.builtin id) self = pure (.builtin id, [self]))
    (z : wpAny M A (call (.builtin id) (.ref x :: args)) (fun v => Q (some v)) E s) : wpAny M A (callSpecialIfBound? (.ref x) name args) Q E s := by
  have lk : Looks M s.heap (bindSpecial (.builtin id) (.ref x)) (.builtin id, [.ref x]) := .of_pure (bnd _)
  simp only [callSpecialIfBound?, bindSpecialIfBound?]
  refine wpAny_holding (wpAny_bind (wpAny_bind (wpAny_bind (I.type.here ((looks_findIn X there).here ?_)))))
  refine wpAny_bind (wpAny_askSetting (wpAny_ite ?_))
  have rest : wpAny M A (call (.builtin id) ([.ref x] ++ args) >>= fun v => pure (some v)) Q E s := wpAny_bind (wpAny_mono z (fun v s' y => wpAny_pure y) fun _ _ y => y)
  split
  · exact wpAny_bind (lk.here (wpAny_pure (by exact rest)))
  · exact wpAny_tryCatch (wpAny_bind (lk.here (wpAny_pure (by exact rest))))
/-- != by the own __eq__, where the class has no __ne__ -/
theorem ne_own {Q : Value → Shared → Prop} (hu : A.units + 1 < cLine) (X : K.In s.heap) (I : InstAt s.heap x ox C od) (hb : Looks (model prog w) s.heap (typeOf b) tb) (hn : notFirst K C tb = true) (no : findIn K (.ref C) "__ne__" = some (some (.builtin "object.__ne__")))
    (ob : mroIn K C (.type "object") = some true) (eq_ : findIn K (.ref C) "__eq__" = some (some (.ref f))) (fn : isFn K (.ref f) = true)
    (z : wpAny (model prog w) A.in1 (call (.ref f) [.ref x, b]) (fun v s' => ∃ c : Bool, v = .bool c ∧ Q (.bool (!c)) s') E s) : wpAny (model prog w) A (richCompare .NotEq (.ref x) b) Q E s := by
  have sub : Looks (model prog w) s.heap (isInstance (.ref x) (.type "object")) true := I.type.andThen (looks_mroIn X ob)
  have one : wpAny (model prog w) A (tryCompare (.ref x) "__ne__" b) (fun r s' => ∃ v, r = some v ∧ Q v s') E s := by
    unfold tryCompare
    refine wpAny_bind (boundB X I no F.cmp_object.ne.bind (wpAny_call (codeAny_call_builtin F.cmp_object.ne.plain F.cmpEntry_ne (check_slot F.cmpKind_ne F.cmpSplit_ne sub (F.cmpArgs_ne _ _) ?_))))
    unfold Builtin.«object.__ne__»
    repeat (first
      | with_reducible refine wpAny_cRoomFor (show A.in1.units < cLine from hu) ?_
      | (refine wpAny_bind (m := callSpecialIfBound? (.ref x) (Str.ofString "__eq__") [b]) (ifBound_K X I eq_ fn (wpAny_mono z (fun r s' hr => by
            obtain ⟨c, rfl, q⟩ := hr
            repeat (first | exact ⟨_, rfl, wpAny_pure ⟨_, rfl, q⟩⟩ | exact wpAny_pure ⟨_, rfl, q⟩ | exact ⟨_, rfl, q⟩ | (refine wpAny_bind (m := truthy (.bool _)) (wpAny_truthy_bool ?_)) | wp_step)) fun _ _ y => y)))
      | wp_step)
  unfold richCompare
  simp only [oneThing_ref]
  refine wpAny_holding (wpAny_bind (wpAny_cRoomFor (Nat.lt_of_succ_lt hu) ?_))
  refine wpAny_bind (I.type.here (wpAny_bind (hb.here ?_)))
  split
  · rename_i q
    have e : subIn K tb (.ref C) = some false := by
      rcases Bool.or_eq_true_iff.mp hn with e | e
      · rw [beq_iff_eq.mp e] at q; simp at q
      · exact beq_iff_eq.mp e
    refine wpAny_bind ((looks_subIn X e).here ?_)
    simp only [Bool.false_eq_true, if_false]
    refine wpAny_bind (wpAny_mono one (fun r s' y => ?_) fun _ _ y => y)
    obtain ⟨v, rfl, q2⟩ := y
    exact wpAny_pure q2
  · refine wpAny_bind (wpAny_pure ?_)
    simp only [Bool.false_eq_true, if_false]
    refine wpAny_bind (wpAny_mono one (fun r s' y => ?_) fun _ _ y => y)
    obtain ⟨v, rfl, q2⟩ := y
    exact wpAny_pure q2
end
end PySem.W
namespace OO
open PySem PySem.Spec PyProof.Rows L2 TL GG
section
variable {X : Cx} {k : Nat} {g C : Addr} {sp : Sp} {pins : List (Addr × Obj)} {σ : L2.St} {H : Hp} {s : Shared} {y : V} {u t : Value}
theorem looksY (I : Inv X pins σ H s) (r : RelV y u) (ty : TyX X.K H y t) {M : Model} : PySem.W.Looks M s.heap (typeOf u) t := by
  obtain ⟨P, z, p, _⟩ := kit_of I r ty
  exact z.ty M s.heap I.kIn p
/-- x == y, x != y, x an instance of the class at C, by its __eq__ -/
def rCmpO (K : PySem.W.Frag) (C : Addr) (sp : Sp) (neg : Bool) : R2 := fun x y H Q => ∃ (a dx : Addr) (fs : List (Str × V)) (t : Value), x = .ref a ∧ H a = some (.ins C dx fs) ∧ TyX K H y t ∧ PySem.W.notFirst K C t = true ∧
  sp [.ref a, y] H (fun v H' => ∃ b : Bool, v = .bl b ∧ Q (.bl (if neg = true then !b else b)) H') E0
theorem op_eqO (F : FnR X.prog X.w X.K X.mg X.base CX0 k g sp) (hr : Room k X.A) (hs : PySem.W.findIn X.K (.ref C) "__eq__" = some (some (.ref g))) (hf : PySem.W.isFn X.K (.ref g) = true) : OpR X (compareOp .Eq) (rCmpO X.K C sp false) := by
  intro pins s σ H x y v u Q I rx ry h
  obtain ⟨a, dx, fs, t, rfl, ha, ty, nf, h⟩ := h
  cases (show v = Value.ref a from rx)
  obtain ⟨mA, O, _⟩ := ins_get I.hok ha
  obtain ⟨od, J, _⟩ := O.look
  obtain ⟨m, fr⟩ := I.fr
  show wpAny _ _ (richCompare .Eq (.ref a) u) _ _ _
  refine PySem.W.cmp_K (op := .Eq) (Nat.lt_of_le_of_lt (Nat.le_add_right _ _) hr.units) fr I.ok.mod.kin J (looksY I ry ty) nf hs hf (wpAny_call (codeAny_mono (F X.A X.stack s H [.ref a, u] [.ref a, y] _ E0 hr I.env0 (.cons rfl (.cons ry .nil)) h) fun way s' told => ?_))
  rcases way with er | fl
  · exact told.elim
  · cases fl with
    | next => exact told.elim
    | brk => exact told.elim
    | cont => exact told.elim
    | ret u2 =>
      obtain ⟨v2, H2, I2, r2, b, rfl, q⟩ := I.after told
      cases (show u2 = Value.bool b from r2)
      exact ⟨.bl b, H2, I2, rfl, q⟩
theorem op_neO (F : FnR X.prog X.w X.K X.mg X.base CX0 k g sp) (hr : Room (k + 1) X.A) (no : PySem.W.findIn X.K (.ref C) "__ne__" = some (some (.builtin "object.__ne__"))) (ob : PySem.W.mroIn X.K C (.type "object") = some true)
    (hs : PySem.W.findIn X.K (.ref C) "__eq__" = some (some (.ref g))) (hf : PySem.W.isFn X.K (.ref g) = true) : OpR X (compareOp .NotEq) (rCmpO X.K C sp true) := by
  intro pins s σ H x y v u Q I rx ry h
  obtain ⟨a, dx, fs, t, rfl, ha, ty, nf, h⟩ := h
  cases (show v = Value.ref a from rx)
  obtain ⟨mA, O, _⟩ := ins_get I.hok ha
  obtain ⟨od, J, _⟩ := O.look
  show wpAny _ _ (richCompare .NotEq (.ref a) u) _ _ _
  refine PySem.W.ne_own (Nat.lt_of_le_of_lt (Nat.add_le_add_left (by decide : 1 ≤ 64) _) hr.units) I.kIn J (looksY I ry ty) nf no ob hs hf (wpAny_call (codeAny_mono (F X.A.in1 X.stack s H [.ref a, u] [.ref a, y] _ E0 hr.in1 I.env0.in1 (.cons rfl (.cons ry .nil)) h) fun way s' told => ?_))
  rcases way with er | fl
  · exact told.elim
  · cases fl with
    | next => exact told.elim
    | brk => exact told.elim
    | cont => exact told.elim
    | ret u2 =>
      obtain ⟨v2, H2, I2, r2, b, rfl, q⟩ := I.after told
      cases (show u2 = Value.bool b from r2)
      exact ⟨b, rfl, .bl (!b), H2, I2, rfl, q⟩
/-- x in y, x not in y, y an instance of the class at C, by its __contains__ -/
def rInO (C : Addr) (sp : Sp) (neg : Bool) : R2 := fun x y H Q => ∃ (a dx : Addr) (fs : List (Str × V)), y = .ref a ∧ H a = some (.ins C dx fs) ∧ sp [.ref a, x] H (fun v H' => ∃ b : Bool, v = .bl b ∧ Q (.bl (if neg = true then !b else b)) H') E0
theorem op_inO (F : FnR X.prog X.w X.K X.mg X.base CX0 k g sp) (hr : Room k X.A) (hs : PySem.W.findIn X.K (.ref C) "__contains__" = some (some (.ref g))) (hf : PySem.W.isFn X.K (.ref g) = true) : OpR X (compareOp .In) (rInO C sp false) := by
  intro pins s σ H x y v u Q I rx ry h
  obtain ⟨a, dx, fs, rfl, ha, h⟩ := h
  cases (show u = Value.ref a from ry)
  obtain ⟨mA, O, _⟩ := ins_get I.hok ha
  obtain ⟨od, J, _⟩ := O.look
  obtain ⟨m, fr⟩ := I.fr
  refine PySem.W.in_K fr I.ok.mod.kin J hs hf (wpAny_call (codeAny_mono (F X.A X.stack s H [.ref a, v] [.ref a, x] _ E0 hr I.env0 (.cons rfl (.cons rx .nil)) h) fun way s' told => ?_))
  rcases way with er | fl
  · exact told.elim
  · cases fl with
    | next => exact told.elim
    | brk => exact told.elim
    | cont => exact told.elim
    | ret u2 =>
      obtain ⟨v2, H2, I2, r2, b, rfl, q⟩ := I.after told
      cases (show u2 = Value.bool b from r2)
      exact wpAny_truthy_bool ⟨.bl b, H2, I2, rfl, q⟩
theorem op_notInO (F : FnR X.prog X.w X.K X.mg X.base CX0 k g sp) (hr : Room k X.A) (hs : PySem.W.findIn X.K (.ref C) "__contains__" = some (some (.ref g))) (hf : PySem.W.isFn X.K (.ref g) = true) : OpR X (compareOp .NotIn) (rInO C sp true) := by
  intro pins s σ H x y v u Q I rx ry h
  obtain ⟨a, dx, fs, rfl, ha, h⟩ := h
  cases (show u = Value.ref a from ry)
  obtain ⟨mA, O, _⟩ := ins_get I.hok ha
  obtain ⟨od, J, _⟩ := O.look
  obtain ⟨m, fr⟩ := I.fr
  refine PySem.W.notIn_K fr I.ok.mod.kin J hs hf (wpAny_call (codeAny_mono (F X.A X.stack s H [.ref a, v] [.ref a, x] _ E0 hr I.env0 (.cons rfl (.cons rx .nil)) h) fun way s' told => ?_))
  rcases way with er | fl
  · exact told.elim
  · cases fl with
    | next => exact told.elim
    | brk => exact told.elim
    | cont => exact told.elim
    | ret u2 =>
      obtain ⟨v2, H2, I2, r2, b, rfl, q⟩ := I.after told
      cases (show u2 = Value.bool b from r2)
      exact wpAny_truthy_bool ⟨.bl (!b), H2, I2, rfl, q⟩
/-- x[i], x an instance of the class at C, by its __getitem__ -/
def tIxO (C : Addr) (sp : Sp) (E : L2.St → XK) (ta tb : TE) : TE := fun σ H Q => ta σ H fun x H1 => tb σ H1 fun y H2 => ∃ (a dx : Addr) (fs : List (Str × V)), x = .ref a ∧ H2 a = some (.ins C dx fs) ∧ sp [.ref a, y] H2 Q (E σ)
theorem pe_ixO {CX : CXT} {E : L2.St → XK} {a b : Expr} {ta tb : TE} {pos : Pos} (F : FnR X.prog X.w X.K X.mg X.base CX k g sp) (hr : Room (k + 1) X.A) (hx : ∀ σ, PassesAt CX X σ (E σ)) (ha : PE X a ta) (hb : PE X b tb) (hs : PySem.W.findIn X.K (.ref C) "__getitem__" = some (some (.ref g)))
    (hk : PySem.W.fnIn X.K g = true) (hf : PySem.W.isFn X.K (.ref g) = true) (hsl : ∀ v i : Value, subscripted b true v i = runValue (.builtin "lifetime.subscript" ⟨[v, i], []⟩) := by intro _ _; rfl) : PE X (.Subscript a b pos) (tIxO C sp E ta tb) := by
  refine ⟨fun pins s σ H Q I h => ?_⟩
  refine Subscript_ (binT ha hb I (R := fun x y H2 => ∃ (a dx : Addr) (fs : List (Str × V)), x = .ref a ∧ H2 a = some (.ins C dx fs) ∧ sp [.ref a, y] H2 Q (E σ)) h fun v u s2 x y H2 I2 rx ry q => ?_)
  obtain ⟨p, dx, fs, rfl, hp, q⟩ := q
  cases (show v = Value.ref p from rx)
  obtain ⟨mA, O, _⟩ := ins_get I2.hok hp
  obtain ⟨od, J, _⟩ := O.look
  obtain ⟨m, fr⟩ := I2.fr
  refine PySem.W.sub_K fr I2.ok.mod.kin J hs hk hf (wpAny_call (codeAny_mono (F X.A.in1 X.stack s2 H2 [.ref p, u] [.ref p, y] _ (E σ) hr.in1 I2.env0.in1 (.cons rfl (.cons ry .nil)) q) fun way s' told => ?_)) (hsl _ _)
  rcases way with er | fl
  · exact hx σ pins H2 s2 er s' I2 told
  · cases fl <;> first | exact I2.after told | exact told.elim
end
end OO

/-! + of a program's own objects, from either side, and +=. -/
namespace PySem.W
open PySem PySem.Calls PyProof.Rows Builtin
section
variable {prog : Program} {w : World} {A : Around} {E : Value → Shared → Prop} {s : Shared} {K : Frag} {x C f g : Addr} {ox : Obj} {od : Option Obj} {a b : Value} {T : String} {op : Operator}
theorem mroFirst (hc : selfFirst K C = true) : ∃ cd rest, clsIn K C = some cd ∧ cd.mro = .ref C :: rest := by
  unfold selfFirst at hc
  cases q : clsIn K C with
  | none => rw [q] at hc; cases hc
  | some cd =>
    rw [q] at hc
    cases m : cd.mro with
    | nil =>
      have hc2 : (cd.mro.head? == some (.ref C)) = true := hc
      rw [m] at hc2
      cases hc2
    | cons a r =>
      have hc2 : (cd.mro.head? == some (.ref C)) = true := hc
      rw [m] at hc2
      have e : some a = some (Value.ref C) := beq_iff_eq.mp hc2
      cases e
      exact ⟨cd, r, rfl, m⟩
/-- own + b, b of a built-in type that fills no number slot -/
theorem binL_own {Q : Value → Shared → Prop} (X : K.In s.heap) (I : InstAt s.heap x ox C od) (hb : Looks (model prog w) s.heap (typeOf b) (.type T)) (fill : fillsNumberSlot (.type T) op.info.2 = pure false) (hc : selfFirst K C = true)
    (hs : findIn K (.ref C) (PySem.dunder op.info.2) = some (some (.ref f))) (hf : isFn K (.ref f) = true) (z : wpAny (model prog w) A (call (.ref f) [.ref x, b]) (CmpBack Q) E s) : wpAny (model prog w) A (binaryOp op (.ref x) b) Q E s := by
  obtain ⟨cd, rest, e1, e2⟩ := mroFirst hc
  unfold binaryOp
  refine wpAny_holding (wpAny_bind ?_)
  unfold binaryOp1
  refine wpAny_bind (I.type.here (wpAny_bind (hb.here (wpAny_bind ((fills_K X e1 e2 hs).here ?_)))))
  have ne : (Value.ref C == Value.type T) = false := rfl
  simp only [ne, Bool.false_eq_true, if_false]
  refine wpAny_bind (wpAny_of_eq fill ?_)
  simp only [Bool.and_false, Bool.false_eq_true, if_false, Bool.false_and]
  refine wpAny_bind (wpAny_pure ?_)
  simp only [Bool.false_eq_true, if_false, if_true]
  refine wpAny_bind (m := tryMethod (.ref x) _ b) ?_
  unfold tryMethod
  refine wpAny_bind (special_fn X I hs (beq_iff_eq.mp hf) (wpAny_mono z (fun v s2 hv => ?_) fun _ _ y => y))
  cases v <;> first | exact hv.elim | exact wpAny_pure (wpAny_pure (wpAny_pure hv))
/-- own + b, b of a built-in type that fills the slot, where the own method raises -/
theorem binL_ownX {Q : Value → Shared → Prop} {ro : Option Value} (X : K.In s.heap) (I : InstAt s.heap x ox C od) (hb : Looks (model prog w) s.heap (typeOf b) (.type T)) (fill : fillsNumberSlot (.type T) op.info.2 = pure true) (sub : subIn K (.type T) (.ref C) = some false)
    (rad : typeLookup (.type T) (PySem.dunderR op.info.2) = pure ro) (hc : selfFirst K C = true) (hs : findIn K (.ref C) (PySem.dunder op.info.2) = some (some (.ref f))) (hr : findIn K (.ref C) (PySem.dunderR op.info.2) = some (some (.ref g))) (hf : isFn K (.ref f) = true)
    (z : wpAny (model prog w) A (call (.ref f) [.ref x, b]) (fun _ _ => False) E s) : wpAny (model prog w) A (binaryOp op (.ref x) b) Q E s := by
  obtain ⟨cd, rest, e1, e2⟩ := mroFirst hc
  unfold binaryOp
  refine wpAny_holding (wpAny_bind ?_)
  unfold binaryOp1
  refine wpAny_bind (I.type.here (wpAny_bind (hb.here (wpAny_bind ((fills_K X e1 e2 hs).here ?_)))))
  have ne : (Value.ref C == Value.type T) = false := rfl
  simp only [ne, Bool.false_eq_true, if_false]
  refine wpAny_bind (wpAny_of_eq fill ?_)
  simp only [Bool.and_self, if_true]
  refine wpAny_bind ((looks_subIn X sub).here ?_)
  simp only [Bool.false_eq_true, if_false, Bool.not_false]
  have nip : Looks (model prog w) s.heap (numberSlotInPython (.ref C) op.info.2) true := by
    intro A Q E s k q
    unfold numberSlotInPython
    refine wpAny_bind (looks_findIn X hs A _ E s k (wpAny_bind (wpAny_pure (wpAny_bind (looks_findIn X hr A _ E s k (wpAny_bind (wpAny_pure ?_)))))))
    rw [if_pos (show (true || true) = true from rfl)]
    exact wpAny_pure q
  have nit : numberSlotInPython (.type T) op.info.2 = pure false := rfl
  refine wpAny_bind (nip.here ?_)
  simp only [if_true]
  refine wpAny_bind (wpAny_of_eq nit ?_)
  simp only [Bool.not_false, if_true]
  refine wpAny_bind (wpAny_of_eq rad ?_)
  refine wpAny_bind (m := tryMethod (.ref x) _ b) ?_
  unfold tryMethod
  exact wpAny_bind (special_fn X I hs (beq_iff_eq.mp hf) (wpAny_mono z (fun v s2 hv => hv.elim) fun _ _ y => y))
/-- a + own, a of such a type -/
theorem binR_own {Q : Value → Shared → Prop} (X : K.In s.heap) (I : InstAt s.heap x ox C od) (ha : Looks (model prog w) s.heap (typeOf a) (.type T)) (fill : fillsNumberSlot (.type T) op.info.2 = pure false) (hc : selfFirst K C = true)
    (hs : findIn K (.ref C) (PySem.dunder op.info.2) = some (some (.ref f))) (hg : findIn K (.ref C) (PySem.dunderR op.info.2) = some (some (.ref g))) (hf : isFn K (.ref g) = true) (z : wpAny (model prog w) A (call (.ref g) [.ref x, a]) (CmpBack Q) E s) : wpAny (model prog w) A (binaryOp op a (.ref x)) Q E s := by
  obtain ⟨cd, rest, e1, e2⟩ := mroFirst hc
  unfold binaryOp
  refine wpAny_holding (wpAny_bind ?_)
  unfold binaryOp1
  refine wpAny_bind (ha.here (wpAny_bind (I.type.here (wpAny_bind (wpAny_of_eq fill ?_)))))
  have ne : (Value.type T == Value.ref C) = false := rfl
  simp only [ne, Bool.false_eq_true, if_false]
  refine wpAny_bind ((fills_K X e1 e2 hs).here ?_)
  simp only [Bool.and_false, Bool.false_eq_true, if_false, Bool.false_and]
  refine wpAny_bind (wpAny_pure ?_)
  simp only [Bool.false_eq_true, if_false, if_true, Bool.not_false, Bool.and_self]
  refine wpAny_bind (m := tryMethod (.ref x) _ a) ?_
  unfold tryMethod
  refine wpAny_bind (special_fn X I hg (beq_iff_eq.mp hf) (wpAny_mono z (fun v s2 hv => ?_) fun _ _ y => y))
  cases v <;> first | exact hv.elim | exact wpAny_pure (wpAny_bind (wpAny_rule (wpAny_pure (wpAny_pure hv))))
/-- own += b -/
theorem ipL_own {Q : Value → Shared → Prop} (X : K.In s.heap) (I : InstAt s.heap x ox C od) (hc : selfFirst K C = true)
    (hs : findIn K (.ref C) (PySem.dunderI op.info.2) = some (some (.ref f))) (hf : isFn K (.ref f) = true) (z : wpAny (model prog w) A (call (.ref f) [.ref x, b]) (CmpBack Q) E s) : wpAny (model prog w) A (inplaceOp op (.ref x) b) Q E s := by
  obtain ⟨cd, rest, e1, e2⟩ := mroFirst hc
  unfold inplaceOp
  refine wpAny_holding (wpAny_bind (I.type.here ?_))
  have fl : Looks (model prog w) s.heap (fillsInplaceSlot (.ref C) op.info.2 (op == .Add)) true := by
    intro A Q E s k q
    unfold fillsInplaceSlot
    refine wpAny_bind ((looks_clsIn X e1).andThen (f := fun cd => pure cd.mro) .now A _ E s k ?_)
    rw [e2, List.anyM_cons]
    refine wpAny_bind (wpAny_bind (looks_findIn X hs A _ E s k ?_))
    dsimp only
    rw [if_pos (show (!ownNameWrapper (.ref f) (PySem.dunderI op.info.2)) = true from rfl)]
    refine wpAny_pure ?_
    rw [if_pos rfl]
    exact wpAny_pure q
  refine wpAny_bind (fl.here ?_)
  simp only [if_true]
  refine wpAny_bind (m := tryMethod (.ref x) _ b) ?_
  unfold tryMethod
  refine wpAny_bind (special_fn X I hs (beq_iff_eq.mp hf) (wpAny_mono z (fun v s2 hv => ?_) fun _ _ y => y))
  cases v <;> first | exact hv.elim | exact wpAny_pure (wpAny_bind (wpAny_rule (wpAny_pure hv)))
end
end PySem.W

/-! + and += of own objects, over the layer; how often data stand in a list. -/
namespace OO
open PySem PySem.Spec PyProof.Rows L2 TL GG
theorem du_add : PySem.dunder "add" = ("__add__" : Str) := by decide +kernel
theorem du_radd : PySem.dunderR "add" = ("__radd__" : Str) := by decide +kernel
theorem du_iadd : PySem.dunderI "add" = ("__iadd__" : Str) := by decide +kernel
theorem fill_tup : fillsNumberSlot (.type "tuple") "add" = pure false := PyProof.Rows.fillsNumberSlot_seq (id := "tuple.__add__") (r := none) (by rw [typeLookup_type, builtinLookup_eq_fast]; kernel_rfl) (by decide +kernel) (by rw [typeLookup_type, builtinLookup_eq_fast]; kernel_rfl) rfl
theorem fill_lst : fillsNumberSlot (.type "list") "add" = pure false := PyProof.Rows.fillsNumberSlot_seq (id := "list.__add__") (r := none) (by rw [typeLookup_type, builtinLookup_eq_fast]; kernel_rfl) (by decide +kernel) (by rw [typeLookup_type, builtinLookup_eq_fast]; kernel_rfl) rfl
theorem fill_str : fillsNumberSlot (.type "str") "add" = pure false := PyProof.Rows.fillsNumberSlot_seq (id := "str.__add__") (r := none) (by rw [typeLookup_type, builtinLookup_eq_fast]; kernel_rfl) (by decide +kernel) (by rw [typeLookup_type, builtinLookup_eq_fast]; kernel_rfl) rfl
theorem fill_none : fillsNumberSlot (.type "NoneType") "add" = pure false := by
  have h1 : typeLookup (.type "NoneType") (dunder "add") = pure none := by rw [typeLookup_type, builtinLookup_eq_fast]; kernel_rfl
  have h2 : typeLookup (.type "NoneType") (dunderR "add") = pure none := by rw [typeLookup_type, builtinLookup_eq_fast]; kernel_rfl
  simp only [fillsNumberSlot, h1, h2, pure_bind]
  rfl
theorem fill_dict : fillsNumberSlot (.type "dict") "add" = pure false := by
  have h1 : typeLookup (.type "dict") (dunder "add") = pure none := by rw [typeLookup_type, builtinLookup_eq_fast]; kernel_rfl
  have h2 : typeLookup (.type "dict") (dunderR "add") = pure none := by rw [typeLookup_type, builtinLookup_eq_fast]; kernel_rfl
  simp only [fillsNumberSlot, h1, h2, pure_bind]
  rfl
theorem rad_int : typeLookup (.type "int") (dunderR "add") = pure (some (.builtin "int.__radd__")) := by rw [typeLookup_type, builtinLookup_eq_fast]; kernel_rfl
theorem fill_int : fillsNumberSlot (.type "int") "add" = pure true := by
  have h1 : typeLookup (.type "int") (dunder "add") = pure (some (.builtin "int.__add__")) := by rw [typeLookup_type, builtinLookup_eq_fast]; kernel_rfl
  have h3 : isSeqSlot (some (.builtin "int.__add__")) = false := by decide +kernel
  simp only [fillsNumberSlot, h1, rad_int, pure_bind, h3]
  rfl
/-- a type of the model that + is not filled by -/
def NoAdd (t : Value) : Prop := ∃ T : String, t = .type T ∧ fillsNumberSlot (.type T) "add" = pure false
/-- what is known of an own class with + -/
structure AddC (K : PySem.W.Frag) (C gl gr gi : Addr) : Prop where
  first : PySem.W.selfFirst K C = true
  l : PySem.W.findIn K (.ref C) "__add__" = some (some (.ref gl))
  fl : PySem.W.isFn K (.ref gl) = true
  r : PySem.W.findIn K (.ref C) "__radd__" = some (some (.ref gr))
  fr : PySem.W.isFn K (.ref gr) = true
  i : PySem.W.findIn K (.ref C) "__iadd__" = some (some (.ref gi))
  fi : PySem.W.isFn K (.ref gi) = true
  noint : PySem.W.subIn K (.type "int") (.ref C) = some false
section
variable {X : Cx} {CX : CXT} {k : Nat} {C gl gr gi : Addr} {sp : Sp} {E : L2.St → XK} {a b : Expr} {ta tb : TE} {pos : Pos}
/-- x + y, x an instance of the class at C; where the own method raises, y may be an int too -/
def tAddL (K : PySem.W.Frag) (C : Addr) (sp : Sp) (E : L2.St → XK) (ta tb : TE) : TE := fun σ H Q => ta σ H fun x H1 => tb σ H1 fun y H2 => ∃ (p dx : Addr) (fs : List (Str × V)), x = .ref p ∧ H2 p = some (.ins C dx fs) ∧
  ((∃ t, TyX K H2 y t ∧ (t = .ref C ∨ NoAdd t) ∧ sp [.ref p, y] H2 (fun v H3 => (∃ q, v = .ref q) ∧ Q v H3) (E σ)) ∨ (TyX K H2 y (.type "int") ∧ sp [.ref p, y] H2 (fun _ _ => False) (E σ)))
theorem back_of {pins : List (Addr × Obj)} {σ : L2.St} {Q : VK} {v : Value} {s : Shared} (h : EP X pins σ (fun v H3 => (∃ q, v = .ref q) ∧ Q v H3) v s) : PySem.W.CmpBack (EP X pins σ Q) v s := by
  obtain ⟨x, H', I, r, ⟨q, rfl⟩, z⟩ := h
  cases (show v = Value.ref q from r)
  exact ⟨.ref q, H', I, rfl, z⟩
theorem pe_addL (c : AddC X.K C gl gr gi) (F : FnR X.prog X.w X.K X.mg X.base CX k gl sp) (hr : Room k X.A) (hx : ∀ σ, PassesAt CX X σ (E σ)) (ha : PE X a ta) (hb : PE X b tb) : PE X (.BinOp a .Add b pos) (tAddL X.K C sp E ta tb) := by
  refine ⟨fun pins s σ H Q I h => ?_⟩
  refine wpAny_BinOp (binT ha hb I (R := fun x y H2 => ∃ (p dx : Addr) (fs : List (Str × V)), x = .ref p ∧ H2 p = some (.ins C dx fs) ∧ ((∃ t, TyX X.K H2 y t ∧ (t = .ref C ∨ NoAdd t) ∧ sp [.ref p, y] H2 (fun v H3 => (∃ q, v = .ref q) ∧ Q v H3) (E σ)) ∨ (TyX X.K H2 y (.type "int") ∧ sp [.ref p, y] H2 (fun _ _ => False) (E σ)))) h fun v u s2 x y H2 I2 rx ry q => ?_)
  obtain ⟨p, dx, fs, rfl, hp, q⟩ := q
  cases (show v = Value.ref p from rx)
  obtain ⟨mA, O, _⟩ := ins_get I2.hok hp
  obtain ⟨od, J, _⟩ := O.look
  obtain ⟨m, fr⟩ := I2.fr
  have run : ∀ {Q' : VK}, sp [.ref p, y] H2 Q' (E σ) → wpAny (model X.prog X.w) X.A (call (.ref gl) [.ref p, u]) (EP X pins σ Q') X.xe s2 := fun z => wpAny_call (run_fnRS (us := [.ref p, u]) (vs := [.ref p, y]) F hr (hx σ) I2 (.cons rfl (.cons ry .nil)) z)
  rcases q with ⟨t, ty, ht, q⟩ | ⟨ty, q⟩
  · have z := wpAny_mono (run q) (fun v s' h => back_of h) fun _ _ y => y
    rcases ht with rfl | ⟨T, rfl, fill⟩
    · exact PySem.W.binop_K (op := .Add) fr I2.ok.mod.kin J (looksY I2 ry ty) c.first (by show PySem.W.findIn X.K (.ref C) (PySem.dunder "add") = _; rw [du_add]; exact c.l) c.fl z
    · exact PySem.W.binL_own (op := .Add) I2.kIn J (looksY I2 ry ty) fill c.first (by show PySem.W.findIn X.K (.ref C) (PySem.dunder "add") = _; rw [du_add]; exact c.l) c.fl z
  · exact PySem.W.binL_ownX (op := .Add) I2.kIn J (looksY I2 ry ty) fill_int c.noint rad_int c.first (by show PySem.W.findIn X.K (.ref C) (PySem.dunder "add") = _; rw [du_add]; exact c.l) (by show PySem.W.findIn X.K (.ref C) (PySem.dunderR "add") = _; rw [du_radd]; exact c.r) c.fl
      (wpAny_mono (run q) (fun v s' h => by obtain ⟨_, _, _, _, z⟩ := h; exact z) fun _ _ y => y)
/-- y + x, x an instance of the class at C, y of a type that + is not filled by -/
def tAddR (K : PySem.W.Frag) (C : Addr) (sp : Sp) (E : L2.St → XK) (ta tb : TE) : TE := fun σ H Q => ta σ H fun y H1 => tb σ H1 fun x H2 => ∃ (p dx : Addr) (fs : List (Str × V)) (t : Value), x = .ref p ∧ H2 p = some (.ins C dx fs) ∧ TyX K H2 y t ∧ NoAdd t ∧ sp [.ref p, y] H2 (fun v H3 => (∃ q, v = .ref q) ∧ Q v H3) (E σ)
theorem pe_addR (c : AddC X.K C gl gr gi) (F : FnR X.prog X.w X.K X.mg X.base CX k gr sp) (hr : Room k X.A) (hx : ∀ σ, PassesAt CX X σ (E σ)) (ha : PE X a ta) (hb : PE X b tb) : PE X (.BinOp a .Add b pos) (tAddR X.K C sp E ta tb) := by
  refine ⟨fun pins s σ H Q I h => ?_⟩
  refine wpAny_BinOp (binT ha hb I (R := fun y x H2 => ∃ (p dx : Addr) (fs : List (Str × V)) (t : Value), x = .ref p ∧ H2 p = some (.ins C dx fs) ∧ TyX X.K H2 y t ∧ NoAdd t ∧ sp [.ref p, y] H2 (fun v H3 => (∃ q, v = .ref q) ∧ Q v H3) (E σ)) h fun u v s2 y x H2 I2 ry rx q => ?_)
  obtain ⟨p, dx, fs, t, rfl, hp, ty, ⟨T, rfl, fill⟩, q⟩ := q
  cases (show v = Value.ref p from rx)
  obtain ⟨mA, O, _⟩ := ins_get I2.hok hp
  obtain ⟨od, J, _⟩ := O.look
  refine PySem.W.binR_own (op := .Add) I2.kIn J (looksY I2 ry ty) fill c.first (by show PySem.W.findIn X.K (.ref C) (PySem.dunder "add") = _; rw [du_add]; exact c.l) (by show PySem.W.findIn X.K (.ref C) (PySem.dunderR "add") = _; rw [du_radd]; exact c.r) c.fr ?_
  exact wpAny_mono (wpAny_call (run_fnRS (us := [.ref p, u]) (vs := [.ref p, y]) F hr (hx σ) I2 (.cons rfl (.cons ry .nil)) q)) (fun v s' h => back_of h) fun _ _ y => y
/-- x += y, x such an instance -/
def tIpO (C : Addr) (sp : Sp) : TIp := fun x y H Q => ∃ (p dx : Addr) (fs : List (Str × V)), x = .ref p ∧ H p = some (.ins C dx fs) ∧ sp [.ref p, y] H (fun v H3 => (∃ q, v = .ref q) ∧ Q v H3) E0
theorem ip_addO (c : AddC X.K C gl gr gi) (F : FnR X.prog X.w X.K X.mg X.base CX k gi sp) (hr : Room k X.A) (hx : Passes CX X E0) : PIp X .Add (tIpO C sp) := by
  intro pins s σ H x y v u Q I rx ry h
  obtain ⟨p, dx, fs, rfl, hp, q⟩ := h
  cases (show v = Value.ref p from rx)
  obtain ⟨mA, O, _⟩ := ins_get I.hok hp
  obtain ⟨od, J, _⟩ := O.look
  refine PySem.W.ipL_own (op := .Add) I.kIn J c.first (by show PySem.W.findIn X.K (.ref C) (PySem.dunderI "add") = _; rw [du_iadd]; exact c.i) c.fi ?_
  exact wpAny_mono (wpAny_call (run_fnRS (E := fun _ => E0) (us := [.ref p, u]) (vs := [.ref p, y]) F hr (pat hx σ) I (.cons rfl (.cons ry .nil)) q)) (fun v s' h => back_of h) fun _ _ y => y
/-- xs.count(z), data -/
def rCntD (K : PySem.W.Frag) : V → List V → Hp → VK → Prop := fun x xs H Q => ∃ (p : Addr) (ds : List PyData) (y : V) (d : PyData), x = .ref p ∧ xs = [y] ∧ Dp K H (.ref p) (.list ds) ∧ Dp K H y d ∧ PyData.plainAll ds = true ∧ d.plain = true ∧ d.depth ≤ 60 ∧ Q (.int (ds.countP fun z => PyData.eqv z d : Nat)) H
theorem mt_countD (hu : X.A.units + 65 < cLine) : MtR X "list.count" (rCntD X.K) := by
  intro pins s σ H x xs v us Q I rx rxs h
  obtain ⟨p, ds, y, d, rfl, rfl, hl, hy, pl, pd, hd, q⟩ := h
  cases rx
  obtain ⟨u, rfl, ru⟩ := rxs.one
  obtain ⟨bs, r1⟩ := Dp.reads I d y u hy ru
  cases hl with
  | lst hs ha =>
    obtain ⟨its, rv, pa, hlen⟩ := I.list hs
    obtain ⟨as, h4⟩ := Dp.readsAll I ds _ its ha rv
    exact PySem.SeqAt.count_list_data pa.isList (by simpa using h4) r1 pl pd (by omega) ⟨.int _, H, I.tok _, ⟨_, rfl⟩, q⟩
end
end OO

/-! iter of a tuple; list(o) of an own object with __iter__ that gives such an iterator, and __len__. -/
namespace OO
open PySem PySem.Spec PyProof.Rows L2 TL GG
/-- at it an iterator over the tuple at p, the next place is i -/
def ItT (p it : Addr) (i : Nat) : HO := .ext fun h => h.IsTupleIter it p i
/-- .. that has ended -/
def ItZ (it : Addr) : HO := .ext fun h => ∃ o, h.get? it = some o
section
open Builtin
variable {prog : Program} {w : World} {A : Around} {E : Value → Shared → Prop} {s : Shared}
/-- the end of such a walk; the iterator is still there -/
theorem nextT_end {y t : Addr} {i : Nat} {xs : Array Value} {Q : Option Value → Shared → Prop} (nh : A.handled = none) (st : s.heap.IsTupleIter y t i) (tu : s.heap.IsTuple t xs) (out : xs[i]? = none)
    (hQ : ∀ h', Heap.ExtBut y s.heap h' → (∃ o, h'.get? y = some o) → Q none { s with heap := h' }) : wpAny (model prog w) A (pyNext (.ref y)) Q E s := by
  obtain ⟨o, e1, e2, e3⟩ := id st
  obtain ⟨ol, f1, _, nl, f2⟩ := tu
  unfold pyNext
  refine wpAny_bind (wpAny_attempt (wpAny_callSpecial?_slot (name := Str.ofString "__next__") st.typeIs F.slot_tuple_iterator_next (wpAny_call_entry F.slot_tuple_iterator_next st.typeIs F.entry_tuple_iterator_next ?_ (F.args_tuple_iterator_next_1 _))))
  show wpAny _ _ (field (.ref y) 0 >>= _) _ _ s
  refine wpAny_bind (wpAny_field e1 e3 (x := .ref t) rfl ?_)
  show wpAny _ _ (if (Value.ref t == Value.none) = true then _ else _) _ _ _
  rw [if_neg (by exact Bool.false_ne_true)]
  show wpAny _ _ (field (.ref y) 1 >>= _) _ _ s
  refine wpAny_bind (wpAny_field e1 e3 (x := .int i 0) rfl ?_)
  show wpAny _ _ (seqItems? (.ref t) >>= _) _ _ _
  refine wpAny_bind (wpAny_seqItems f1 f2 ?_)
  simp only [Int.toNat_natCast, out]
  refine wpAny_bind (wpAny_rule (wpAny_bind (wpAny_setField e1 e3 (by simp) ?_)))
  show wpAny _ _ (newExc (.type "StopIteration") [] >>= _) _ _ _
  refine wpAny_bind ?_
  simp only [newExc, newTuple]
  refine wpAny_bind (wpAny_newObj_type ?_ (by size_fits))
  refine wpAny_bind (m := firstArgMember _ _) (wpAny_of_eq (a := Value.none) (by first | rfl | (rw [firstArgMember]; rfl)) ?_)
  refine wpAny_newObj_type ?_ (by size_fits)
  simp only [raiseNew]
  refine wpAny_bind (wpAny_handled ?_)
  rw [show A.in1.handled = none from nh]
  refine wpAny_bind (wpAny_pure (wpAny_throw ?_))
  refine wpAny_bind (wpAny_isInstance (T := "StopIteration") (b := true) ⟨_, Heap.get?_push_size _ rfl, rfl⟩ isSubtype_stop ?_)
  refine wpAny_pure (hQ _ (((Heap.SameBut.update ..).extBut.push _).push _) ⟨_, Heap.get?_push_of_some _ (Heap.get?_push_of_some _ (Heap.get?_update_self _ e1 (Obj.isFreed_of_fields (Obj.data_mapFields e3 _))))⟩)
end
section
variable {X : Cx} {pins : List (Addr × Obj)} {σ : L2.St} {H : Hp} {s : Shared} {p it S : Addr} {i : Nat}
theorem itT_ok {P : Program} {w : World} {H : Hp} {h : Heap} (e : h.IsTupleIter it p i) : ObjOk P w H h it (ItT p it i) := ⟨e, (let ⟨o, z, _⟩ := e; ⟨o, z⟩), fun h1 h2 q k => q.at fun o z => k o z⟩
theorem itT_get (I : Inv X pins σ H s) (e : H it = some (ItT p it i)) : s.heap.IsTupleIter it p i := (I.hok it _ e).1
/-- iter(t), t a tuple -/
def rIterT (K : PySem.W.Frag) : List V → Hp → VK → Prop := fun xs H Q => ∃ (p : Addr) (ys : List V), xs = [.ref p] ∧ SqT K H p ys ∧ ∀ it, H it = none → Q (.ref it) (upd H it (ItT p it 0))
theorem call_iterT : CallR X (.builtin "iter") (rIterT X.K) := by
  intro pins s σ H xs us Q I r h
  obtain ⟨p, ys, rfl, hq, q⟩ := h
  obtain ⟨u, rfl, ru⟩ := vals1 r
  cases ru
  obtain ⟨its, rv, pt, hz⟩ := I.tuple hq
  refine Calls.call_function_entry (by decide +kernel) (by decide +kernel) PySem.W.kdk_entry_iter (PySem.W.kdk_args_iter _) ?_
  unfold Builtin.«iter»
  refine wpAny_bind (m := someArgs "iter" 1 2 _) (wpAny_of_eq (a := [Value.ref p]) (by first | rfl | kernel_rfl!) ?_)
  show wpAny _ _ (pyIter (.ref p) >>= _) _ _ _
  refine wpAny_bind (wpAny_pyIter_tuple pt ?_)
  exact wpAny_pure ⟨_, rfl, .ref s.heap.objs.size, _, I.laid (t' := s.toks) (fun b u e => Heap.get?_push_of_some _ e) (Nat.le_refl _) (itT_ok ⟨_, Heap.get?_push_size _ rfl, rfl, rfl⟩), rfl, q _ (I.hok.fresh (Nat.le_refl _))⟩
theorem env_at {n : Nat} {A1 : Around} (sb : Sub X n A1) (I : Inv X pins σ H s) : Env0 X.prog X.w X.K X.mg X.base A1 X.stack s H := by
  have e := I.env0
  refine ⟨?_, e.mod, e.bs, e.bsz, e.funs, e.frf, e.hok, e.bare⟩
  rw [sb.fr]
  exact e.frames
/-- a def that raises nothing, run deeper -/
theorem fn_at {n : Nat} {A1 : Around} {g : Addr} {sp : Sp} {us : List Value} {vs : List V} {Q : VK} {E1 : Value → Shared → Prop} (sb : Sub X n A1) (F : FnR X.prog X.w X.K X.mg X.base CX0 n g sp) (I : Inv X pins σ H s) (r : Vals vs us) (h : sp vs H Q E0) :
    wpAny (model X.prog X.w) A1 (call (.ref g) us) (EP X pins σ Q) E1 s :=
  wpAny_call (codeAny_mono (F A1 X.stack s H us vs Q E0 sb.room (env_at sb I) r h) fun way s' told => by
    rcases way with er | fl
    · exact told.elim
    · cases fl <;> first | exact I.after told | exact told.elim)
theorem len_at {n : Nat} {A1 : Around} {a dx C g : Addr} {fs : List (Str × V)} {sp : Sp} {m : Nat} {E1 : Value → Shared → Prop} (sb : Sub X (n + 1) A1) (F : FnR X.prog X.w X.K X.mg X.base CX0 n g sp) (I : Inv X pins σ H s) (ha : H a = some (.ins C dx fs))
    (hs : PySem.W.findIn X.K (.ref C) "__len__" = some (some (.ref g))) (hf : PySem.W.isFn X.K (.ref g) = true) (h : sp [V.ref a] H (fun v H' => v = .int (m : Nat) ∧ H' = H) E0) (hm : m ≤ 1000) :
    wpAny (model X.prog X.w) A1 (call (.builtin "len") [.ref a]) (fun v s' => ∃ t, v = .int (m : Nat) t ∧ Inv X pins σ H s') E1 s := by
  obtain ⟨mA, O, _⟩ := ins_get I.hok ha
  obtain ⟨od, J, _⟩ := O.look
  refine Calls.call_function_entry kind_len plain_len entry_len (args_len1 _) ?_
  unfold Builtin.«len»
  refine wpAny_bind (m := oneArg "len" _) (wpAny_pure ?_)
  refine wpAny_bind (m := callSpecial? (.ref a) (Str.ofString "__len__")) (PySem.W.special_fn (args := []) I.kIn J hs (beq_iff_eq.mp hf) (wpAny_mono (fn_at (vs := [V.ref a]) sb.in1 F I (.cons rfl .nil) h) (fun u s' hq => ?_) fun _ _ y => y))
  obtain ⟨v, H', I3, rv, rfl, eH⟩ := hq
  rw [eH] at I3
  obtain ⟨tk, rfl⟩ := rv
  refine wpAny_bind (wpAny_holding (wpAny_pure ?_))
  refine wpAny_bind (wpAny_letGo ?_)
  show wpAny _ _ (if ((m : Nat) : Int) < 0 then _ else _) _ _ _
  rw [if_neg (by omega)]
  show wpAny _ _ (if ((m : Nat) : Int) ≥ 2 ^ 63 then _ else _) _ _ _
  rw [if_neg (by omega)]
  exact wpAny_bind (wpAny_mkInt (wpAny_pure ⟨_, rfl, _, rfl, I3.tok _⟩))
theorem hint_at {n : Nat} {A1 : Around} {a dx C g : Addr} {fs : List (Str × V)} {sp : Sp} {m : Nat} {E1 : Value → Shared → Prop} {Q : Bool → Shared → Prop} (sb : Sub X (n + 1) A1) (F : FnR X.prog X.w X.K X.mg X.base CX0 n g sp) (I : Inv X pins σ H s) (ha : H a = some (.ins C dx fs))
    (hs : PySem.W.findIn X.K (.ref C) "__len__" = some (some (.ref g))) (hf : PySem.W.isFn X.K (.ref g) = true) (h : sp [V.ref a] H (fun v H' => v = .int (m : Nat) ∧ H' = H) E0) (hm : m ≤ 1000) (hq : ∀ b s', Inv X pins σ H s' → Q b s') :
    wpAny (model X.prog X.w) A1 (Builtin.List.listLengthHint (.ref a)) Q E1 s := by
  obtain ⟨mA, O, _⟩ := ins_get I.hok ha
  obtain ⟨od, J, _⟩ := O.look
  unfold Builtin.List.listLengthHint
  refine wpAny_bind (wpAny_bind (J.type.here ((PySem.W.looks_findIn I.kIn hs).here ?_)))
  refine PySem.W.KFB.if_not rfl ?_
  show wpAny _ _ (if (some (Value.ref g)).isSome = true then _ else _) _ _ _
  rw [if_pos (show (some (Value.ref g)).isSome = true from rfl)]
  refine wpAny_bind (wpAny_rule (wpAny_bind (wpAny_attempt (wpAny_mono (len_at (E1 := fun _ _ => False) sb F I ha hs hf h hm) (fun v s' hv => ?_) fun _ _ y => y.elim))))
  obtain ⟨t, rfl, I3⟩ := hv
  refine wpAny_bind (wpAny_of_eq (a := some ((m : Nat) : Int)) rfl ?_)
  show wpAny _ _ (if Builtin.List.listTooLong ((m : Nat) : Int).toNat = true then _ else _) _ _ _
  rw [Int.toNat_natCast, if_neg (by rw [notLongL (Nat.le_of_lt (small1000 hm))]; exact Bool.false_ne_true)]
  exact wpAny_pure (hq _ _ I3)
theorem sqT_off {K : PySem.W.Frag} {H : Hp} {a b : Addr} {o o2 : HO} {xs : List V} (h : SqT K H a xs) (hb : H b = some o) (hn : ∀ z, ¬ (o = .tup z ∨ ∃ q, o = .frz q (.tup z))) : SqT K (upd H b o2) a xs := by
  refine h.elim (fun r => .inl (r.elim (fun e => .inl ?_) fun ⟨q, e⟩ => .inr ⟨q, ?_⟩)) .inr
  · have : a ≠ b := fun z => by
      rw [z, hb] at e
      exact hn xs (.inl (Option.some.inj e))
    rw [upd_ne this]
    exact e
  · have : a ≠ b := fun z => by
      rw [z, hb] at e
      exact hn xs (.inr ⟨q, Option.some.inj e⟩)
    rw [upd_ne this]
    exact e
/-- the walk of such an iterator into a list -/
theorem loopT {A1 : Around} {ys : List V} {Rs : Result → Shared → Prop} (hh : A1.in1.handled = none) (hl : ys.length ≤ 1000) (hdone : ∀ H' s', Inv X pins σ H' s' → H' S = some (.lst ys) → (∀ b o, b ≠ S → b ≠ it → H b = some o → H' b = some o) → Rs (.ok (.ret .none)) s') :
    ∀ (k i : Nat) (H1 : Hp) (s1 : Shared), i + k = ys.length → Inv X pins σ H1 s1 → H1 S = some (.lst (ys.take i)) → H1 it = some (ItT p it i) → S ≠ it → SqT X.K H1 p ys → (∀ b o, b ≠ S → b ≠ it → H b = some o → H1 b = some o) →
      codeAny (model X.prog X.w) A1 (.builtin "list.extend.loop" ⟨[.ref S, .ref it, .none], []⟩) Rs s1 := by
  intro k
  induction k with
  | zero =>
    intro i H1 s1 hi I hS hI ne hq rest
    have hi : i = ys.length := hi
    obtain ⟨its, rv, pt, hz⟩ := I.tuple hq
    have hlen := rv.length
    refine codeAny_builtin PySem.F.entry_extend_loop ?_
    rw [Around.under_plainId PySem.F.plain_extend_loop _]
    refine wpAny_bind (nextT_end hh (itT_get I hI) pt (by simp; omega) fun h' eb he => wpAny_pure ?_)
    have mu : Mut (H1 it) := by rw [hI]; exact True.intro
    have I1 := I.write (x := it) (e := it) (o := ItZ it) (t' := s1.toks) mu (.inl rfl) (fun b o nb z => eb b o nb z) he ⟨he, he, fun h1 h2 q k => (let ⟨o, z⟩ := q; ⟨o, k o z⟩)⟩
    exact hdone _ _ I1 (by rw [upd_ne ne, hS, hi, List.take_length]) fun b o h1 h2 h3 => by rw [upd_ne h2]; exact rest b o h1 h2 h3
  | succ k ih =>
    intro i H1 s1 hi I hS hI ne hq rest
    obtain ⟨its, rv, pt, hz⟩ := I.tuple hq
    have hx : ys[i]? = some ys[i] := List.getElem?_eq_getElem (by omega)
    obtain ⟨u, hu, ru⟩ := rv.get hx
    refine codeAny_builtin PySem.F.entry_extend_loop ?_
    rw [Around.under_plainId PySem.F.plain_extend_loop _]
    refine wpAny_bind (wpAny_pyNext_tuple_item (itT_get I hI) pt (x := u) (by simpa using hu) fun h' st' sb => ?_)
    have mu : Mut (H1 it) := by rw [hI]; exact True.intro
    obtain ⟨o1, ho1, _⟩ := id st'
    have I1 := I.write (x := it) (e := it) (o := ItT p it (i + 1)) (t' := s1.toks) mu (.inl rfl) (fun b o nb z => (sb.2 b nb).trans z) ⟨_, ho1⟩ (itT_ok st')
    show wpAny _ _ (updateSeq S (·.push u) >>= _) _ _ _
    have hS1 : upd H1 it (ItT p it (i + 1)) S = some (.lst (ys.take i)) := by rw [upd_ne ne]; exact hS
    obtain ⟨z, its1, k1, r2, hl2, e⟩ := I1.lstM hS1
    refine wpAny_bind (wpAny_updateSeq e rfl (wpAny_pure ⟨plainId_quiet PySem.F.plain_extend_loop _, ?_⟩) (by rw [List.size_toArray]; have := sizeLine_eq; rw [List.length_take] at hl2; omega) (by show (its1.toArray.push u).size ≤ sizeLine + 1; rw [Array.size_push, List.size_toArray]; have := sizeLine_eq; rw [List.length_take] at hl2; omega))
    have et : ys.take (i + 1) = ys.take i ++ [ys[i]] := by rw [List.take_add_one, hx]; rfl
    have I2 := I1.lset (its' := its1 ++ [u]) (ys := ys.take i ++ [ys[i]]) (f := (·.push u)) (t' := s1.toks) hS1 e (by simp) (r2.append (.cons ru .nil)) (by have := sizeLine_eq; rw [List.length_append, List.length_take, List.length_singleton]; omega)
    refine ih (i + 1) _ _ (by omega) I2 (by rw [upd_same, et]) (by rw [upd_ne ne.symm]; exact upd_same) ne ?_ fun b o h1 h2 h3 => by rw [upd_ne h1, upd_ne h2]; exact rest b o h1 h2 h3
    exact sqT_off (sqT_off hq hI fun z e => by rcases e with e | ⟨_, e⟩ <;> cases e) hS1 fun z e => by rcases e with e | ⟨_, e⟩ <;> cases e
/-- what is known of an own class whose objects are listed -/
structure LstC (K : PySem.W.Frag) (C fi fl : Addr) : Prop where
  it : PySem.W.findIn K (.ref C) "__iter__" = some (some (.ref fi))
  itF : PySem.W.isFn K (.ref fi) = true
  ln : PySem.W.findIn K (.ref C) "__len__" = some (some (.ref fl))
  lnF : PySem.W.isFn K (.ref fl) = true
/-- list(o): a list, a tuple, or an instance of the class at C -/
def rListO (K : PySem.W.Frag) (C : Addr) (spI spL : Sp) : List V → Hp → VK → Prop := fun xs H Q => (∃ p ys, xs = [.ref p] ∧ (SqL K H p ys ∨ SqT K H p ys) ∧ ∀ l, H l = none → Q (.ref l) (upd H l (.lst ys))) ∨
  ∃ (a dx p : Addr) (fs : List (Str × V)) (ys : List V), xs = [.ref a] ∧ H a = some (.ins C dx fs) ∧ SqT K H p ys ∧ ys.length ≤ 1000 ∧
    (∀ H1, Same H H1 → spI [.ref a] H1 (fun v H2 => ∃ it, v = .ref it ∧ H1 it = none ∧ H2 = upd H1 it (ItT p it 0)) E0) ∧ (∀ H1, Same H H1 → spL [.ref a] H1 (fun v H2 => v = .int (ys.length : Nat) ∧ H2 = H1) E0) ∧
    ∀ H1 l, Same H H1 → H l = none → H1 l = some (.lst ys) → Q (.ref l) H1
theorem call_listO {C fi fl : Addr} {n : Nat} {spI spL : Sp} (hc : LstC X.K C fi fl) (FI : FnR X.prog X.w X.K X.mg X.base CX0 n fi spI) (FL : FnR X.prog X.w X.K X.mg X.base CX0 n fl spL) (hr : Room (n + 3) X.A) (hcalm : X.calm = true) : CallR X (.type "list") (rListO X.K C spI spL) := by
  intro pins s σ H xs us Q I rv h
  rcases h with h | ⟨a, dx, p, fs, ys, rfl, ha, hq, hlen, hI, hL, q⟩
  · exact call_list_of pins s σ H xs us Q I rv h
  obtain ⟨u, rfl, ru⟩ := rv.one
  cases ru
  have sb : Sub X (n + 1) X.A.in1.in1 := (Sub.in1 (Sub.in1 (⟨hr, rfl⟩ : Sub X (n + 3) X.A)))
  refine callType_codes (Q₁ := fun obj s1 => obj = .ref s.heap.objs.size ∧ s1 = { s with heap := s.heap.push { cls := .type "list", data := .seq #[] } }) PySem.F.called_list (PySem.F.typeCall_list_1 _) PySem.F.entry_list_init (code_list_new _ ⟨rfl, rfl⟩) fun obj s1 g0 => ?_
  obtain ⟨rfl, rfl⟩ := g0
  have atS : (s.heap.push { cls := .type "list", data := .seq #[] }).get? s.heap.objs.size = some { cls := .type "list", data := .seq #[] } := Heap.get?_push_size _ rfl
  refine ⟨⟨_, atS, rfl⟩, PySem.F.args_list_init_2 _ _, ?_⟩
  have newS := I.fresh
  have K1 : Inv X pins σ (upd H s.heap.objs.size (.lst [])) { s with heap := s.heap.push { cls := .type "list", data := .seq #[] } } := I.lnew (its := []) (t' := s.toks) .nil (Nat.zero_le _)
  show wpAny _ _ (Builtin.List.listItems (.ref s.heap.objs.size) >>= fun old => Builtin.List.listUpdate (.ref s.heap.objs.size) (fun _ => #[]) >>= fun _ => letGo old.toList.reverse >>= fun _ => Builtin.List.listExtendWith (.ref s.heap.objs.size) (.ref a) .none) _ _ _
  refine wpAny_bind ?_
  unfold Builtin.List.listItems
  refine wpAny_bind (wpAny_seqItems atS rfl (wpAny_pure ?_))
  show wpAny _ _ (updateSeq s.heap.objs.size (fun _ => #[]) >>= fun _ => letGo (#[] : Array Value).toList.reverse >>= fun _ => Builtin.List.listExtendWith (.ref s.heap.objs.size) (.ref a) .none) _ _ _
  refine wpAny_bind (wpAny_updateSeq atS rfl ?_)
  have K2 := K1.lset (f := fun _ => #[]) (its := []) (its' := []) (ys := []) (t' := s.toks) upd_same atS rfl .nil (Nat.zero_le _)
  rw [upd_upd] at K2
  refine wpAny_bind (wpAny_letGo ?_)
  generalize s.heap.objs.size = S at *
  have s1 : Same H (upd H S (.lst [])) := same_upd newS
  have ha2 := s1 _ _ ha
  have hne : S ≠ a := ne_of upd_same ha2 (fun z => nomatch z)
  obtain ⟨mA, J, _⟩ := ins_get K2.hok ha2
  obtain ⟨od, J, _⟩ := J.look
  obtain ⟨mF, hFr⟩ := K2.fr
  unfold Builtin.List.listExtendWith
  refine wpAny_bind (J.type.here ?_)
  have g0 : Builtin.List.listSameRef (.ref S) (.ref a) = false := by simp [Builtin.List.listSameRef, hne]
  have gL : (Value.ref C == Value.type "list") = false := rfl
  have gT : (Value.ref C == Value.type "tuple") = false := rfl
  simp only [g0, gL, gT, Bool.or_false, Bool.false_eq_true, if_false]
  refine wpAny_bind (PySem.W.owit_iter hFr K2.ok.mod.kin J hc.it hc.itF ?_)
  refine wpAny_mono (fn_at (vs := [V.ref a]) (sb.mono (Nat.le_add_right n 1)) FI K2 (.cons rfl .nil) (hI _ s1)) (fun u s2 hu => ?_) fun _ _ y => y
  obtain ⟨v, H2, I3, rv2, it, rfl, hit, rfl⟩ := hu
  cases (show u = Value.ref it from rv2)
  have st := itT_get I3 upd_same
  refine wpAny_specialOf (name := Str.ofString "__next__") st.typeIs F.slot_tuple_iterator_next.lookup ?_
  have nSi : S ≠ it := fun z => by
    rw [← z, upd_same] at hit
    cases hit
  have s2' : Same H (upd (upd H S (.lst [])) it (ItT p it 0)) := s1.trans (same_upd hit)
  have sq : SqT X.K (upd (upd H S (.lst [])) it (ItT p it 0)) p ys := Same.seqT s2' hq
  have eS : upd (upd H S (.lst [])) it (ItT p it 0) S = some (.lst []) := by rw [upd_ne nSi]; exact upd_same
  have eI : upd (upd H S (.lst [])) it (ItT p it 0) it = some (ItT p it 0) := upd_same
  have away : ∀ b o, H b = some o → b ≠ S ∧ b ≠ it := fun b o e => ⟨ne_of_none e newS, ne_of_none (s1 _ _ e) hit⟩
  generalize upd (upd H S (.lst [])) it (ItT p it 0) = H4 at I3 s2' sq eS eI
  have hh : X.A.in1.in1.handled = none := I.ok.hd hcalm
  have fin : ∀ s5, Inv X pins σ H4 s5 → codeAny (model X.prog X.w) X.A.in1 (.builtin "list.extend.loop" ⟨[.ref S, .ref it, .none], []⟩) (wants (fun r sz => r = .none ∧ EP X pins σ Q (.ref S) sz) X.xe) s5 := fun s5 I5 =>
    loopT (H := H4) hh hlen (fun H' s' I' e k => ⟨rfl, .ref S, H', I', rfl, q H' S (fun b o z => k b o (away b o z).1 (away b o z).2 (s2' _ _ z)) newS e⟩) ys.length 0 H4 s5 (Nat.zero_add _) I5 (by rw [List.take_zero]; exact eS) eI nSi sq fun _ _ _ _ z => z
  refine wpAny_bind (wpAny_holding (hint_at sb FL I3 (s2' _ _ ha) hc.ln hc.lnF (hL _ s2') hlen fun b s3 I4 => ?_))
  refine wpAny_ite_split (fun _ => ?_) (fun _ => wpAny_pure ⟨plainId_quiet PySem.F.plain_extend_loop _, fin s3 I4⟩)
  refine wpAny_bind (wpAny_rule (wpAny_bind ?_))
  obtain ⟨z1, its, n1, r1, l1, g1⟩ := I4.lstM eS
  cases r1
  show wpAny _ _ (updateSeq S (fun x => x.push .none) >>= fun _ => updateSeq S (fun x => x.pop)) _ _ _
  refine wpAny_bind (wpAny_updateSeq g1 rfl ?_)
  have J1 := I4.lset (f := fun x => x.push Value.none) (its' := [Value.none]) (ys := [.non]) (t' := s3.toks) eS g1 (by simp) (.cons rfl .nil) (by rw [List.length_singleton, sizeLine_eq]; decide)
  obtain ⟨z2, its2, n2, r2, l2, g2⟩ := J1.lstM upd_same
  obtain ⟨u2, rfl, ru2⟩ := r2.one
  refine wpAny_updateSeq g2 rfl ?_ (by show 1 ≤ sizeLine; rw [sizeLine_eq]; decide) (Nat.zero_le _)
  refine wpAny_pure ⟨plainId_quiet PySem.F.plain_extend_loop _, fin _ ?_⟩
  have J2 := J1.lset (f := fun x => x.pop) (its := [u2]) (its' := []) (ys := []) (t' := s3.toks) upd_same g2 (by rfl) .nil (Nat.zero_le _)
  rw [upd_upd, show upd H4 S (.lst []) = H4 from funext fun b => by
    by_cases hb : b = S
    · rw [hb, upd_same, eS]
    · rw [upd_ne hb]] at J2
  exact J2
end
end OO

/-! Own exception classes called by keywords: BaseException.__new__ takes them, the own __init__ gets them. -/
namespace PySem
namespace HandSPX
open Builtin Builtin.ObjectAttr
section
variable {M : Model} {A : Around} {E : Value → Shared → Prop} {h : Heap} {g : Array GenState} {d : Drawn} {t : Nat} {os : OsState}
variable {nm q : Str} {C N : Addr} {bs bm bmB : List Value} {hdct : Bool} {sn : List Str} {sub : List Value} {ab : Bool} {col : Option Bool} {dd : Option Addr} {k0 k1 k2 k3 k5 : Option Value} {B newId initId : String}
theorem check_newK (F : ExcBaseFacts B newId initId bmB) (same : ∀ X : String, bm.contains (.type X) = bmB.contains (.type X)) {kw : List (Str × Value)} {Q : Unit → Shared → Prop}
    (cls : h.get? C = some (excClassObj nm q C N bs bm hdct sn sub ab col dd k0 k1 k2 k3 k5 newId)) (z : Q () ⟨h, g, d, t, os⟩) : wpAny M A (checkBuiltinCall newId ⟨[.ref C], kw⟩) Q E ⟨h, g, d, t, os⟩ := by
  have under : (Value.ref C :: bm).contains (.type B) = true := by rw [List.contains_cons, same, F.hasB, Bool.or_true]
  have ns := F.noStar
  simp only [checkBuiltinCall, F.newKind, F.newSplit, F.newRow]
  repeat (first | refine wpAny_loadPart_at cls ?_ | (refine wpAny_isSubtype_exc cls ?_; rw [under]) | refine wpAny_staticBase_exc cls ?_ | refine wpAny_madeBy_exc cls ?_ | simp only [bne_self_eq_false, Bool.false_eq_true, if_false] | wp_step)
  exact z
end
section
variable {prog : Program} {w : World} {A : Around} {E : Value → Shared → Prop} {R : Result → Shared → Prop} {h : Heap} {g : Array GenState} {d : Drawn} {t : Nat} {os : OsState}
variable {nm q : Str} {C N : Addr} {bs bm bmB : List Value} {hdct : Bool} {sn : List Str} {sub : List Value} {ab : Bool} {col : Option Bool} {dd : Option Addr} {k0 k1 k2 k3 k5 : Option Value} {B newId initId : String}
theorem newK (F : ExcBaseFacts B newId initId bmB) (same : ∀ X : String, bm.contains (.type X) = bmB.contains (.type X)) {kw : List (Str × Value)}
    (cls : h.get? C = some (excClassObj nm q C N bs bm hdct sn sub ab col dd k0 k1 k2 k3 k5 newId))
    (z : R (.ok (.ret (.ref (h.objs.size + 1)))) ⟨(h.push (W.kdv_tup [])).push (excO C h.objs.size), g, d, t, os⟩) : codeAny (model prog w) A (.builtin newId ⟨[.ref C], kw⟩) R ⟨h, g, d, t, os⟩ := by
  have fin_ := F.ends
  have inB : (Value.ref C :: bm).contains (.type B) = true := by rw [List.contains_cons, same, F.hasB, Bool.or_true]
  have notA : (Value.ref C :: bm).contains (.type "AttributeError") = false := by rw [List.contains_cons, same, F.noAttr]; rfl
  have notN : (Value.ref C :: bm).contains (.type "NameError") = false := by rw [List.contains_cons, same, F.noName]; rfl
  have size0 : ([] : List Value).length ≤ sizeLine := Nat.zero_le _
  refine codeAny_builtinAt F.entry ?_
  unfold Builtin.«BaseException.__new__»
  refine wpAt_bind ?_
  show wpAt _ _ _ (stack >>= _) _ _ _
  refine wpAt_bind (wpAt_stack fun p below => wpAt_of_wpAny ?_)
  wp_walk
  refine wpAt_of_wpAny ?_
  rw [F.owner]
  repeat (first | with_reducible refine wpAny_madeHere_exc F.canon cls ?_ | with_reducible refine wpAny_loadPart_at cls ?_ | (with_reducible refine wpAny_isSubtype_exc cls ?_; first | rw [inB] | rw [notA] | rw [notN]) | wp_step)
  show R _ _
  rw [Heap.size_push]
  exact z
theorem type_callK (F : ExcBaseFacts B newId initId bmB) (same : ∀ X : String, bm.contains (.type X) = bmB.contains (.type X)) {kw : List (Str × Value)} {fI : Addr} {Q : Fin → Shared → Prop}
    (cls : h.get? C = some (excClassObj nm q C N bs bm hdct sn sub ab col dd k0 k1 k2 k3 k5 newId))
    (ini : W.Looks (model prog w) h (typeLookup (.ref C) "__init__") (some (.ref fI))) (bnd : ∀ self, W.Looks (model prog w) h (bindSpecial (.ref fI) self) (.ref fI, [self]))
    (z : codeAny (model prog w) A (.call (.ref fI) ⟨[.ref (h.objs.size + 1)], kw⟩)
      (fun r s' => match r with | .ok (.ret v) => v = .none ∧ Q (.done (.ret (.ref (h.objs.size + 1)))) s' | .ok _ => False | .error e => E e s') ⟨(h.push (W.kdv_tup [])).push (excO C h.objs.size), g, d, t, os⟩) :
    wpAny (model prog w) A (Builtin.«type.__call__» ⟨[.ref C], kw⟩) Q E ⟨h, g, d, t, os⟩ := by
  repeat (first | with_reducible refine wpAny_loadPart_at cls ?_ | with_reducible refine wpAny_madeBy_exc cls ?_ | wp_step)
  refine codeAny_call_builtin_code (Code.quiet_builtin _ F.quiet) (check_newK F same cls ?_)
  refine newK F same cls ?_
  show wpAny _ _ _ _ _ _
  have keep : ∀ b o, h.get? b = some o → ((h.push (W.kdv_tup [])).push (excO C h.objs.size)).get? b = some o := fun b o e => Heap.get?_push_of_some _ (Heap.get?_push_of_some _ e)
  have cls1 := keep _ _ cls
  have made : ((h.push (W.kdv_tup [])).push (excO C h.objs.size)).get? (h.objs.size + 1) = some (excO C h.objs.size) := by heap_get
  have self : (Value.ref C :: bm).contains (.ref C) = true := by simp
  have ini1 := ini.keeps keep
  have bnd1 := (bnd (.ref (h.objs.size + 1))).keeps keep
  unfold isInstance
  repeat (first | with_reducible refine wpAny_loadPart_at made ?_ | (with_reducible refine wpAny_isSubtype_exc cls1 ?_; rw [self]) | wp_step)
  show wpAny _ _ (typeLookup (.ref C) _) _ _ _
  refine ini1.at ?_
  refine wpAny_holding (wpAny_bind (bnd1.at ?_))
  refine wpAny_bind (wpAny_call (codeAny_mono z fun r s' y => ?_))
  rcases r with e | (v | _ | _ | _) <;> first | exact y | exact y.elim | skip
  obtain ⟨rfl, y⟩ := y
  first
    | exact wpAny_pure (wpAny_pure y)
    | (wp_walk; exact y)
theorem instTy {M : Model} (cls : h.get? C = some (excClassObj nm q C N bs bm hdct sn sub ab col dd k0 k1 k2 k3 k5 newId)) : W.Looks M h (isInstance (.ref C) (.type "type")) true := by
  have ty : W.Looks M h (typeOf (.ref C)) (.type "type") := (W.Looks.ld cls).andThen .now
  exact ty.andThen (.of_pure tc_sub)
theorem call_K (F : ExcBaseFacts B newId initId bmB) (same : ∀ X : String, bm.contains (.type X) = bmB.contains (.type X)) {kw : List (Str × Value)} {fI : Addr}
    (cls : h.get? C = some (excClassObj nm q C N bs bm hdct sn sub ab col dd k0 k1 k2 k3 k5 newId))
    (ini : W.Looks (model prog w) h (typeLookup (.ref C) "__init__") (some (.ref fI))) (bnd : ∀ self, W.Looks (model prog w) h (bindSpecial (.ref fI) self) (.ref fI, [self]))
    (z : codeAny (model prog w) (A.under (.builtin "type.__call__" ⟨[.ref C], kw⟩)) (.call (.ref fI) ⟨[.ref (h.objs.size + 1)], kw⟩) (W.InitBack (h.objs.size + 1) R) ⟨(h.push (W.kdv_tup [])).push (excO C h.objs.size), g, d, t, os⟩) :
    codeAny (model prog w) A (.call (.ref C) ⟨[], kw⟩) R ⟨h, g, d, t, os⟩ := by
  have look := tc_lookup
  have bind := tc_bind (.ref C)
  have ty : (⟨h, g, d, t, os⟩ : Shared).TypeIs (.ref C) "type" := ⟨_, cls, rfl⟩
  refine codeAny_of_tree ?_
  show wpAny _ _ (callAny (.ref C) _) _ _ _
  repeat (any_goals (first | assumption | with_reducible refine wpAny_loadPart_at cls ?_ | wp_step))
  refine ⟨rfl, ?_⟩
  refine codeAny_call_builtin_at (Code.quiet_builtin _ (by decide +kernel)) entry_typeCall (W.check_slot tc_kind tc_split ?_ (W.tc_args _ [] kw) ?_)
  · exact instTy cls
  · refine type_callK F same cls ini bnd ?_
    refine codeAny_mono z fun r s' y => ?_
    rcases r with e | (v | _ | _ | _) <;> exact y
end
end HandSPX
end PySem

/-! Exceptions of a program's own classes as values: over any base of the library's, called by place or by name, their fields read, isinstance of them. -/
namespace PySem
namespace HandSPX
open Builtin Builtin.ObjectAttr
section
variable {prog : Program} {w : World} {A : Around} {E : Value → Shared → Prop} {R : Result → Shared → Prop} {hp : Heap} {g : Array GenState} {d : Drawn} {t : Nat} {os : OsState}
/-- the first store into an exception that has no dict: told of the classes above by what they let pass -/
theorem store_first {K : W.Frag} {name : Str} {tk : Tok} {v : Value} {x C : Addr} {fv : Array Value} {cd : ClassData} (X : K.In hp) (here : hp.get? x = some { cls := .ref C, data := .fields fv }) (dat : W.clsIn K C = some cd)
    (full : cd.mro.isEmpty = false) (top : cd.mro.contains (.type "object") = true) (lets : refuseLoop (.ref x) "__setattr__" cd.mro = pure ()) (dic : cd.hasDict = true) (no : W.findIn K (.ref C) name = some none)
    (z : ∀ h' tk' dx, (∀ b o, b ≠ x → hp.get? b = some o → h'.get? b = some o) → hp.objs.size ≤ dx → dx ≠ x → h'.get? x = some { cls := .ref C, dict := some dx, data := .fields fv } →
      h'.Ns1 dx (fun y => if y = name then some v else none) → R (.ok (.ret .none)) ⟨h', g, d, tk', os⟩) :
    codeAny (model prog w) A (.call (.builtin "object.__setattr__") ⟨[.ref x, .str name tk, v], []⟩) R ⟨hp, g, d, t, os⟩ := by
  have inst : W.InstAt hp x { cls := .ref C, data := .fields fv } C none := ⟨here, rfl, rfl, trivial⟩
  have facts := F.store_object
  have apart : x ≠ hp.objs.size := Nat.ne_of_lt (Heap.lt_size here)
  have is_ : W.Looks (model prog w) hp (isInstance (.ref x) (.type "object")) true := inst.type.andThen (W.looks_mroIn X (by unfold W.mroIn; rw [dat, Option.bind_some, if_neg (by rw [full]; decide), top]))
  refine codeAny_call_builtin facts.slot.plain facts.entry (@W.check_slot (model prog w) _ _ ⟨hp, g, d, t, os⟩ "object.__setattr__" "object" "__setattr__" (.ref x) [.str name tk, v] [] _ facts.kind facts.split is_ (facts.args (.ref x) (.str name tk) v) ?_)
  have chain : W.Looks (model prog w) hp (mroOf (.ref C)) cd.mro := (W.looks_clsIn X dat).andThen .now
  have taker : W.Looks (model prog w) hp (storeTaker? none) none := .now
  have data : W.Looks (model prog w) hp (classData C) cd := W.looks_clsIn X dat
  rw [W.osa_eq, refuse_eq]
  refine wpAny_bind (wpAny_bind (inst.type.at (wpAny_bind (chain.at ?_))))
  rw [lets]
  refine wpAny_pure (wpAny_bind (inst.type.at (wpAny_bind ((W.looks_findIn X no).at (wpAny_bind (taker.at ?_))))))
  show wpAny _ _ (storeInOwnDict (.ref x) (.ref C) (.str name tk) name v false) _ _ _
  obtain ⟨nm, bs, mro, ns, qn, hd, sn, sb, ab, col, del⟩ := cd
  dsimp only at dic
  subst dic
  unfold storeInOwnDict ownDictForStores
  repeat (first | with_reducible refine store_in_new ?_ ?_ | with_reducible refine wpAny_loadPart_at here ?_ | with_reducible refine data.at ?_ | wp_step)
  · exact ⟨_, #[], _, (Heap.get?_update_ne _ _ _ _ apart.symm).trans (Heap.get?_push_at rfl rfl), rfl, fun e he => absurd he (by simp), fun _ => rfl⟩
  · intro h' tk' hn' hs
    have now_ : (hp.push { cls := .type "dict", data := .dict #[] }).get? x = some { cls := .ref C, data := .fields fv } := Heap.get?_push_of_some _ here
    exact z h' tk' hp.objs.size (fun b o hb ho => (hs.2 b (Nat.ne_of_lt (Heap.lt_size ho))).trans ((Heap.get?_update_ne _ _ _ _ hb).trans (Heap.get?_push_of_some _ ho))) (Nat.le_refl _) apart.symm
      ((hs.2 x apart).trans (Heap.get?_update_self _ now_ rfl)) hn'
end
end HandSPX
end PySem

namespace OO
open PySem PySem.Spec PyProof.Rows L2 TL GG
/-- what is known of an exception class C of one's own, over a base of the library's -/
structure ExB (K : PySem.W.Frag) (mg : Str → Option Value) (nm : Str) (C fI : Addr) : Prop where
  g : mg nm = some (.ref C)
  cls : ∃ (nn q : Str) (N : Addr) (bs bm bmB : List Value) (sn : List Str) (sub : List Value) (ab : Bool) (col : Option Bool) (dd : Option Addr) (k0 k1 k2 k3 k5 : Option Value) (newId B initId : String),
    K.lookup C = some (excClassObj nn q C N bs bm true sn sub ab col dd k0 k1 k2 k3 k5 newId) ∧ PySem.W.excTail bmB bm = true ∧ ExcBaseFacts B newId initId bmB ∧ (∀ self, refuseLoop self "__setattr__" bmB = pure ()) ∧ bmB.contains (.type "object") = true
  sa : PySem.W.findIn K (.ref C) "__setattr__" = some (some (.builtin "object.__setattr__"))
  ex : PySem.W.subIn K (.ref C) (.type "BaseException") = some true
  kC : PySem.W.keepIn K (.ref C) = true
  ga : PySem.W.findIn K (.ref C) "__getattribute__" = some (some (.builtin "BaseException.__getattribute__"))
  gg : PySem.W.findIn K (.ref C) "__getattr__" = some none
  hd : PySem.W.hasDictIn K C = true
  i : PySem.W.findIn K (.ref C) "__init__" = some (some (.ref fI))
  t : PySem.W.typeIn K (.ref fI) = some (.type "function")
  cl : PySem.W.findIn K (.ref C) "__class__" = some (some (.builtin "object.__class__"))
  mo : PySem.W.mroIn K C (.type "object") = some true
/-- how object.__class__ is bound -/
structure ClsD (K : PySem.W.Frag) : Prop where
  hn : PySem.W.specialIn K (.builtin "object.__class__") "__get__" = some (some (.builtin "getset_descriptor.__get__"))
  tk : PySem.W.takesIn K (.builtin "object.__class__") = some true
section
variable {X : Cx} {nm : Str} {C fI : Addr} {pins : List (Addr × Obj)} {σ : L2.St} {H : Hp} {s : Shared} {a dx : Addr} {f : Str} {y : V} {u : Value} {fs : List (Str × V)} {E : Value → Shared → Prop} {A : Around}
theorem ost_first {Q : Unit → Shared → Prop} (T : ExB X.K X.mg nm C fI) (I : Inv X pins σ H s) (e : H a = some (exo a C none)) (no : PySem.W.findIn X.K (.ref C) f = some none) (ry : RelV y u)
    (z : ∀ dx s', H dx = none → dx ≠ a → Inv X pins σ (upd (upd H dx (exd dx [(f, y)])) a (exo a C (some dx))) s' → Q () s') : wpAny (model X.prog X.w) A (setAttr (.ref a) f u) Q E s := by
  obtain ⟨nn, q, N, bs, bm, bmB, sn, sub, ab, col, dd, k0, k1, k2, k3, k5, newId, B, initId, hC, tail, _, pass, obj⟩ := T.cls
  have dat : PySem.W.clsIn X.K C = some { name := nn, bases := bs, mro := .ref C :: bm, ns := N, qualname := q, hasDict := true, slotNames := sn, subclasses := sub, abstract := ab, collection := col, hasDel := false } := by
    unfold PySem.W.clsIn
    rw [hC] <;> rfl
  obtain ⟨t1, ho⟩ := exo_at I.hok e
  obtain ⟨hp, g, d, t, os⟩ := s
  refine PySem.W.set_plain I.kIn (ox := { cls := .ref C, dict := none, data := .fields #[.ref t1, .none, .none, .none, .bool false, .none] }) (od := none) ⟨ho, rfl, rfl, trivial⟩ T.sa ?_
  refine PySem.HandSPX.store_first I.kIn ho dat rfl (by rw [List.contains_cons, PySem.W.excTail_contains "object" _ tail, obj, Bool.or_true]) (by rw [refuseLoop_ref]; exact PySem.W.excTail_pass _ (pass _) _ tail) rfl no (fun h' tk' dx keep fresh ne now_ names => ?_)
  have nd : H dx = none := I.hok.fresh fresh
  have old : ∀ {b : Addr} {o : Obj}, hp.get? b = some o → b ≠ dx := fun {b o} w => Nat.ne_of_lt (Nat.lt_of_lt_of_le (Heap.lt_size w) fresh)
  have oth : ∀ {b : Addr}, H b = none → b ≠ a := fun {b} n w => by
    rw [w, e] at n
    cases n
  have U : Un X.fs [] H (upd (upd H dx (exd dx [(f, y)])) a (exo a C (some dx))) hp h' := {
    keep := fun b o w n _ _ => keep b o (oth n) w
    slot := fun b o w n _ _ => ⟨o.slots, keep b o (oth n) w⟩
    free := fun b o w n _ => by rw [upd_ne (oth n), upd_ne (old w)]; exact n
    there := fun b o w _ => by
      by_cases hb : b = a
      · exact ⟨_, by rw [hb]; exact now_⟩
      · exact ⟨o, keep b o hb w⟩
    tups := fun b xs w => by rw [upd_ne (at_ne e w exo_tup), upd_ne (ne_of_none w nd)]; exact w
    frzs := fun b o v w => by rw [upd_ne (at_ne e w exo_frz), upd_ne (ne_of_none w nd)]; exact w
    tbls := fun b ps w => ⟨#[], by rw [upd_ne (at_ne e w exo_tbl), upd_ne (ne_of_none w nd), w]; simp⟩ }
  refine z dx _ nd ne (I.un (t' := tk') U fun b o w => ?_)
  by_cases hb : b = a
  · subst hb
    rw [upd_same] at w
    cases w
    exact exo_ok now_
  · rw [upd_ne hb] at w
    by_cases hd : b = dx
    · subst hd
      rw [upd_same] at w
      cases w
      exact exd_ok names (relO_put (fs := []) ry fun _ => True.intro)
    · rw [upd_ne hd] at w
      exact (I.hok b o w).stay (fun c v hc k => keep c v (by
          rcases hc with hc | hc
          · rw [hc]
            exact hb
          · exact at_ne e hc exo_own) k)
        (fun c hc => by rw [upd_ne (at_ne e hc exo_own), upd_ne (ne_of_none hc nd)]; exact hc) (fun c xs hc => by rw [upd_ne (at_ne e hc exo_tup), upd_ne (ne_of_none hc nd)]; exact hc)
/-- self.f = e, the first store into the exception at self -/
def tOstB (C : Addr) (f : Str) (to te : TE) : TS := fun D σ H => te σ H fun y H1 => to σ H1 fun x H2 => ∃ a : Addr, x = .ref a ∧ H2 a = some (exo a C none) ∧ ∀ dx, H2 dx = none → dx ≠ a → D.nx σ (upd (upd H2 dx (exd dx [(f, y)])) a (exo a C (some dx)))
theorem ps_ostB {o e : Expr} {to te : TE} {p' pos : Pos} (T : ExB X.K X.mg nm C fI) (no : PySem.W.findIn X.K (.ref C) f = some none) (ho : PE X o to) (he : PE X e te) (hs : swapsWith e (some (.Attribute o f p')) pos.line X.env = pure false := by rfl) :
    PS X (.Assign [.Attribute o f p'] e pos) (tOstB C f to te) := by
  refine ⟨fun pins s σ H D I h => ?_⟩
  refine plainObj_wpAny_Assign_Attribute (thn (he.run pins s σ H _ I h) fun v s1 ⟨y, H1, I1, r1, q1⟩ => thn (ho.run pins s1 σ H1 _ I1 q1) fun u s2 ⟨x, H2, I2, r2, a, ex, ea, q⟩ => ?_) hs
  subst ex
  obtain rfl : u = Value.ref a := r2
  exact ost_first T I2 ea no r1 fun dx s' n ne J => ⟨σ, _, J, q dx n ne⟩
/-- what a call of the class comes to: the object that its own __init__ got -/
theorem run_mkE {CX : CXT} {k : Nat} {fd : FuncData} {ps ks : List Str} {sp : Sp} {Q : VK} {us ws : List Value} {vs : List V} (T : ExB X.K X.mg nm C fI) (F : FnOk X.prog X.w X.K X.mg X.base CX k fI fd ps sp) (hr : Room (k + 1) X.A)
    (hx : Passes CX X (fun _ _ _ => False)) (I : Inv X pins σ H s) (r : Vals vs (us ++ ws)) (len : us.length ≤ sizeLine) (how : ks = [] ∧ ws = [] ∨ us = [])
    (bnd : ∀ (s : Shared) (self : Value), X.K.In s.heap → BindsTo s fd ⟨self :: us, ks.zip ws⟩ (ps.zip (self :: (us ++ ws))))
    (h : ∀ a, H a = none → sp (.ref a :: vs) (upd H a (exo a C none)) (fun v H2 => v = .non ∧ Q (.ref a) H2) (fun _ _ _ => False)) :
    wpAny (model X.prog X.w) X.A (call (.ref C) us (ks.zip ws)) (EP X pins σ Q) X.xe s := by
  obtain ⟨nn, q, N, bs, bm, bmB, sn, sub, ab, col, dd, k0, k1, k2, k3, k5, newId, B, initId, hC, tail, facts, pass, obj⟩ := T.cls
  obtain ⟨hp, g, dr, tk, os⟩ := s
  have gone : H (hp.objs.size + 1) = none := I.hok.fresh (Nat.le_succ _)
  have keep : ∀ b o, hp.get? b = some o → ((hp.push (PySem.W.kdv_tup us)).push (PySem.HandSPX.excO C hp.objs.size)).get? b = some o := fun b o e => Heap.get?_push_of_some _ (Heap.get?_push_of_some _ e)
  have made : ((hp.push (PySem.W.kdv_tup us)).push (PySem.HandSPX.excO C hp.objs.size)).get? (hp.objs.size + 1) = some (PySem.HandSPX.excO C hp.objs.size) := by heap_get
  have I2 : Inv X pins σ (upd H (hp.objs.size + 1) (exo (hp.objs.size + 1) C none)) ⟨(hp.push (PySem.W.kdv_tup us)).push (PySem.HandSPX.excO C hp.objs.size), g, dr, tk, os⟩ :=
    I.laid (t' := tk) (a := hp.objs.size + 1) (o := exo (hp.objs.size + 1) C none) (h' := (hp.push (PySem.W.kdv_tup us)).push (PySem.HandSPX.excO C hp.objs.size)) keep (Nat.le_succ _) (exo_ok made)
  have r2 : Vals (V.ref (hp.objs.size + 1) :: vs) (Value.ref (hp.objs.size + 1) :: (us ++ ws)) := .cons rfl r
  have body : codeAny (model X.prog X.w) (X.A.under (.builtin "type.__call__" ⟨.ref C :: us, ks.zip ws⟩)) (.call (.ref fI) ⟨.ref (hp.objs.size + 1) :: us, ks.zip ws⟩)
      (PySem.W.InitBack (hp.objs.size + 1) fun rr s' => match rr with | .ok (.ret v) => EP X pins σ Q v s' | .ok _ => False | .error e => X.xe e s') ⟨(hp.push (PySem.W.kdv_tup us)).push (PySem.HandSPX.excO C hp.objs.size), g, dr, tk, os⟩ := by
    refine codeAny_mono (F.run _ X.stack _ _ ⟨Value.ref (hp.objs.size + 1) :: us, ks.zip ws⟩ (Value.ref (hp.objs.size + 1) :: (us ++ ws)) _ _ (fun _ _ _ => False) (hr.make C us (ks.zip ws)) (I2.env0.make C us (ks.zip ws)) (bnd _ _ I2.kIn) r2 (h _ gone)) fun rr s' told => ?_
    rcases rr with er | fl
    · exact hx pins σ _ _ er s' I2 told
    · cases fl with
      | next => exact told.elim
      | brk => exact told.elim
      | cont => exact told.elim
      | ret u =>
        obtain ⟨v, H2, I3, rv, ev, q2⟩ := I2.after told
        subst ev
        exact ⟨rv, V.ref (hp.objs.size + 1), H2, I3, rfl, q2⟩
  rcases how with ⟨rfl, rfl⟩ | rfl
  · exact wpAny_call (PySem.HandSPX.call_own facts (fun Y => PySem.W.excTail_contains Y bm tail) (I.kIn _ _ hC) (PySem.W.looks_findIn I.kIn T.i) (fun self => PySem.W.bind_fn I.kIn self T.t) len body)
  · exact wpAny_call (PySem.HandSPX.call_K facts (fun Y => PySem.W.excTail_contains Y bm tail) (I.kIn _ _ hC) (PySem.W.looks_findIn I.kIn T.i) (fun self => PySem.W.bind_fn I.kIn self T.t) body)
end
end OO

namespace OO
open PySem PySem.Spec PyProof.Rows L2 TL GG
/-- at a: an exception of the class C that holds such fields -/
def ExV (C : Addr) (H : Hp) (a : Addr) (fs : List (Str × V)) : Prop := ∃ dx, H a = some (exo a C (some dx)) ∧ H dx = some (exd dx fs)
theorem ExV.same {C : Addr} {H H' : Hp} {a : Addr} {fs : List (Str × V)} (h : ExV C H a fs) (s : Same H H') : ExV C H' a fs := by
  obtain ⟨dx, h1, h2⟩ := h
  exact ⟨dx, s _ _ h1, s _ _ h2⟩
/-- __init__(self, x, y) that stores both -/
def spExI2 (S : Addr) (f1 f2 : Str) : Sp := fun vs H Q _ => ∃ (a : Addr) (v1 v2 : V), vs = [.ref a, v1, v2] ∧ H a = some (exo a S none) ∧ ∀ dx, H dx = none → dx ≠ a → Q .non (upd (upd (upd H dx (exd dx [(f1, v1)])) a (exo a S (some dx))) dx (exd dx [(f2, v2), (f1, v1)]))
theorem mk1 {S : Addr} {f : Str} {v : V} {H : Hp} {Q : Addr → Hp → Prop} {E : XK} (q : ∀ a H', Same H H' → ExV S H' a [(f, v)] → Q a H') :
    ∀ a, H a = none → spExI S f (.ref a :: [v]) (upd H a (exo a S none)) (fun v' H2 => v' = .non ∧ Q a H2) E := fun a ha => by
  refine ⟨a, v, rfl, upd_same, fun dx hdx ne => ⟨rfl, q a _ (fun b o e => ?_) ⟨dx, upd_same, by rw [upd_ne ne]; exact upd_same⟩⟩⟩
  have h1 : b ≠ a := ne_of_none e ha
  have h2 : b ≠ dx := ne_of_none e (by rw [upd_ne ne] at hdx; exact hdx)
  rw [upd_ne h1, upd_ne h2, upd_ne h1]
  exact e
theorem mk2 {S : Addr} {f1 f2 : Str} {v1 v2 : V} {H : Hp} {Q : Addr → Hp → Prop} {E : XK} (q : ∀ a H', Same H H' → ExV S H' a [(f2, v2), (f1, v1)] → Q a H') :
    ∀ a, H a = none → spExI2 S f1 f2 (.ref a :: [v1, v2]) (upd H a (exo a S none)) (fun v' H2 => v' = .non ∧ Q a H2) E := fun a ha => by
  refine ⟨a, v1, v2, rfl, upd_same, fun dx hdx ne => ⟨rfl, q a _ (fun b o e => ?_) ⟨dx, by rw [upd_ne ne.symm]; exact upd_same, upd_same⟩⟩⟩
  have h1 : b ≠ a := ne_of_none e ha
  have h2 : b ≠ dx := ne_of_none e (by rw [upd_ne ne] at hdx; exact hdx)
  rw [upd_ne h2, upd_ne h1, upd_ne h2, upd_ne h1]
  exact e
/-- C(e, ..) as a value -/
def tMkE (C : Addr) (sp : Sp) (t : TA) : TE := fun σ H Q => t σ H fun vs H1 => vs.length ≤ 1000 ∧ ∀ a, H1 a = none → sp (.ref a :: vs) (upd H1 a (exo a C none)) (fun v H2 => v = .non ∧ Q (.ref a) H2) (fun _ _ _ => False)
section
variable {X : Cx} {nm : Str} {C fI : Addr} {CX : CXT} {k : Nat} {fd : FuncData} {ps ks : List Str} {sp : Sp} {x : Str} {e : Expr} {es : List Expr} {kws : List Keyword} {t : TA} {p pos : Pos}
theorem pe_mkE (T : ExB X.K X.mg x C fI) (F : FnOk X.prog X.w X.K X.mg X.base CX k fI fd ps sp) (hr : Room (k + 1) X.A) (hb : Binds X.K fd ps []) (hx : Passes CX X (fun _ _ _ => False)) (hg : Gl X x) (ha : PA X (e :: es) t)
    (hdb : (x == ("__debug__" : Str)) = false := by decide) (he : starEach (e :: es) X.env = (false, eval e X.env) :: starEach es X.env := by rfl) (hpl : (backTo pos (starEach es X.env)).any (·.1) = false := by rfl) :
    PE X (.Call (.Name x p) (e :: es) [] pos) (tMkE C sp t) := by
  refine ⟨fun pins s σ H Q I h => ?_⟩
  refine wpAny_Call_Name_kw (ld_glob I hg T.g ?_ hdb)
  refine PySem.W.callWith_K (h₀ := X.base) I.ok.mod.kin T.kC (thn (ha.run pos pins s σ H _ I h) fun us s1 ⟨vs, H1, I1, r, hz, q⟩ => ⟨I1.kIn, ?_⟩) he hpl
  have len := r.length
  have e0 : H1 (s1.heap.objs.size) = none := I1.hok.fresh (Nat.le_refl _)
  refine run_mkE (ks := []) (ws := []) T F hr hx I1 (by rw [List.append_nil]; exact r) (Nat.le_of_lt (small1000 (by rw [List.nil_append]; omega))) (.inl ⟨rfl, rfl⟩) (fun s' self hk => ?_) q
  have l2 : ((self :: us) ++ []).length = ps.length := by
    have z := F.len _ _ _ _ (q _ e0)
    rw [List.length_cons] at z
    rw [List.append_nil, List.length_cons, ← len]
    exact z
  have z := hb s' (self :: us) hk l2
  rw [List.append_nil] at z ⊢
  exact z
/-- C(k = e, ..) as a value -/
theorem pe_mkEk (T : ExB X.K X.mg x C fI) (F : FnOk X.prog X.w X.K X.mg X.base CX k fI fd ps sp) (hr : Room (k + 1) X.A) (bnd : ∀ (s : Shared) (self : Value) (ws : List Value), X.K.In s.heap → ws.length = ks.length → BindsTo s fd ⟨[self], ks.zip ws⟩ (ps.zip (self :: ws)))
    (hx : Passes CX X (fun _ _ _ => False)) (hg : Gl X x) (hkw : PK X kws t) (hn : ps.length = ks.length + 1) (hall : (backToKw pos (keywordEach kws X.env)).all (·.1.isSome) = true := by rfl) (hks : (backToKw pos (keywordEach kws X.env)).filterMap (·.1) = ks := by rfl)
    (hdb : (x == ("__debug__" : Str)) = false := by decide) (hpl : ((backTo pos (starEach [] X.env)).any (·.1) || (backToKw pos (keywordEach kws X.env)).any (·.1.isNone)) = false := by rfl) :
    PE X (.Call (.Name x p) [] kws pos) (tMkE C sp t) := by
  refine ⟨fun pins s σ H Q I h => ?_⟩
  refine wpAny_Call_Name_kw (ld_glob I hg T.g ?_ hdb)
  refine PySem.W.callWith_KW0 (h₀ := X.base) I.ok.mod.kin T.kC hall (thn (hkw.run pos pins s σ H _ I h) fun ws s1 ⟨vs, H1, I1, r, hz, q⟩ => ⟨I1.kIn, ?_⟩) hpl
  rw [hks]
  have e0 : H1 (s1.heap.objs.size) = none := I1.hok.fresh (Nat.le_refl _)
  have len := r.length
  have z := F.len _ _ _ _ (q _ e0)
  rw [List.length_cons] at z
  exact run_mkE (us := []) (ws := ws) T F hr hx I1 (by rw [List.nil_append]; exact r) (Nat.zero_le _) (.inr rfl) (fun s' self hk => by rw [List.nil_append]; exact bnd s' self ws hk (by omega)) q
/-- e.n of an exception -/
def tGetE (C : Addr) (n : Str) (te : TE) : TE := fun σ H Q => te σ H fun x H1 => ∃ (a : Addr) (fs : List (Str × V)) (v : V), x = .ref a ∧ ExV C H1 a fs ∧ fs.lookup n = some v ∧ Q v H1
theorem inst_of {pins : List (Addr × Obj)} {σ : L2.St} {H : Hp} {s : Shared} {a : Addr} {fs : List (Str × V)} (I : Inv X pins σ H s) (h : ExV C H a fs) : ∃ (ox od : Obj) (mA : Str → Option Value), PySem.W.InstAt s.heap a ox C (some od) ∧ (∀ name, PySem.W.lookIn name od = some (mA name)) ∧ ∀ f, RelO (fs.lookup f) (mA f) := by
  obtain ⟨dx, h1, h2⟩ := h
  obtain ⟨t1, ho⟩ := exo_at I.hok h1
  obtain ⟨mA, hns, hr⟩ := exd_at I.hok h2
  obtain ⟨od, hod, hl⟩ := lookIn_ns hns
  exact ⟨_, od, mA, ⟨ho, rfl, rfl, hod⟩, hl, hr⟩
theorem pe_getE {n : Str} {te : TE} (T : ExB X.K X.mg nm C fI) (no : PySem.W.findIn X.K (.ref C) n = some none) (he : PE X e te) (hb : attributeBase e n X.env (eval e X.env) = eval e X.env := by rfl) : PE X (.Attribute e n pos) (tGetE C n te) := by
  refine ⟨fun pins s σ H Q I h => ?_⟩
  refine attr_of hb (thn (he.run pins s σ H _ I h) fun u s1 ⟨y, H1, I1, ry, a, fs, v, ey, ex, l, q⟩ => ?_)
  subst ey
  obtain rfl : u = Value.ref a := ry
  obtain ⟨ox, od, mA, J, hl, hr⟩ := inst_of I1 ex
  obtain ⟨u, hu, ru⟩ := RelO.some_of (v := v) (o := mA n) (by rw [← l]; exact hr n)
  exact HandSPX.exc_get I1.kIn J T.ga T.gg T.ex (PySem.W.findObj_own T.hd no rfl (by rw [hl, hu])) (handed_of ru) ⟨v, H1, I1.tok _, ru, q⟩
/-- isinstance of an exception -/
def rIsV (K : PySem.W.Frag) (mg : Str → Option Value) : List V → Hp → VK → Prop := fun xs H Q => ∃ (a C fI : Addr) (nm : Str) (fs : List (Str × V)) (c : V) (cv : Value) (b : Bool), xs = [.ref a, c] ∧ ExB K mg nm C fI ∧ ExV C H a fs ∧ ClsV c cv ∧ PySem.W.kitOne K (.ref C) cv = some b ∧ Q (.bl b) H
theorem call_isV (D : ClsD X.K) : CallR X (.builtin "isinstance") (rIsV X.K X.mg) := by
  intro pins s σ H xs us Q I r h
  obtain ⟨a, C, fI, nm, fs, c, cv, b, rfl, T, ex, k, e, q⟩ := h
  obtain ⟨u1, u2, rfl, r1, r2⟩ := vals2 r
  cases (show u1 = Value.ref a from r1)
  have e2 := k.eq r2
  subst e2
  obtain ⟨ox, od, mA, J, _, _⟩ := inst_of I ex
  have hcl : (PySem.W.clsIn X.K C).isSome = true := by
    obtain ⟨cd, hc, _⟩ := PySem.W.any_some T.hd
    rw [hc]
    rfl
  exact PySem.W.kia_one (PySem.W.kitx_exc hcl T.ga T.gg T.ex T.cl D.hn D.tk T.mo) I.kIn J e (fun z => nomatch z) fun tk => ⟨.bl b, H, I.kept (t' := tk) fun _ _ z => z, rfl, q⟩
end
/-- the things of the law: data, and a dict of one entry -/
inductive ThD (K : PySem.W.Frag) (H : Hp) : V → PyData → Prop
  | dat {v : V} {d : PyData} : Dp K H v d → ThD K H v d
  | dic {q : Addr} {z : Str} {i : Int} : H q = some (.dK [(.inr z, .int i)]) → ThD K H (.ref q) (.dict [(.str z, .int i)])
section
variable {X : Cx} {pins : List (Addr × Obj)} {σ : L2.St} {H : Hp} {s : Shared}
theorem ThD.reads (I : Inv X pins σ H s) {v : V} {d : PyData} {u : Value} (h : ThD X.K H v d) (r : RelV v u) : ∃ as, Reads s.heap u d as ∧ (d.hasDict = true → sysModules ∉ as) := by
  cases h with
  | dat hd =>
    obtain ⟨as, rd⟩ := Dp.reads I _ _ _ hd r
    exact ⟨as, rd, PyData.noDict_hsm (dp_noDict _ _ hd)⟩
  | @dic q z i hq =>
    cases (show u = Value.ref q from r)
    obtain ⟨_, hne, vs, kv, o, es, ep, ho, ex, hd, _, pr, _⟩ := dk_of I.hok hq
    cases kv with
    | cons kv1 kv2 =>
      cases kv2
      rename_i p0 _
      obtain ⟨k1, k2⟩ := kv1
      obtain ⟨a0, b0⟩ := p0
      cases (show (Sum.inr z : Key) = a0 from k1)
      obtain ⟨tk, hb⟩ := (show ∃ tk, b0 = Value.int i tk from k2)
      subst hb
      generalize hes : es.toList = el at pr
      cases pr with
      | @cons e1 kv1 es1 kvs1 hk hv hr =>
        cases hr
        rcases keyIs_shape (show keyIs (Sum.inr z) e1.key = true from hk) with ⟨i2, t2, h1, _⟩ | ⟨x2, t2, h1, h2⟩
        · exact nomatch h1
        · cases h1
          have rd : Reads s.heap (.ref q) (.dict [(.str z, .int i)]) (q :: ([] ++ []) ++ ([] ++ [])) := Reads.dict (kvs := [(PyData.str z, PyData.int i)]) ho ex.1 hd (by rw [hes]; show ReadsAll _ [e1.key] _ _; rw [h2]; exact .cons (.str _ _) .nil) (by rw [hes]; show ReadsAll _ [e1.val] _ _; rw [hv]; exact .cons (.int _ _) .nil)
          refine ⟨_, rd, fun _ hm => ?_⟩
          rcases List.mem_cons.mp hm with e | e
          · rw [← e] at hne
            exact absurd (beq_self_eq_true _) (by rw [hne]; exact Bool.false_ne_true)
          · exact nomatch e
theorem th_all (I : Inv X pins σ H s) {v : V} {d : PyData} (h : ThD X.K H v d) : ∀ (n : Nat) (us : List Value), Vals (List.replicate n v) us → ∃ as, ReadsAll s.heap us (List.replicate n d) as ∧ (d.hasDict = true → sysModules ∉ as)
  | 0, us, r => by
    cases r
    exact ⟨_, .nil, fun _ => List.not_mem_nil⟩
  | n + 1, us, r => by
    rw [List.replicate_succ] at r
    cases r with
    | cons r1 r2 =>
      obtain ⟨as, ra, ha⟩ := h.reads I r1
      obtain ⟨bs, rb, hb⟩ := th_all I h n _ r2
      rw [List.replicate_succ]
      refine ⟨_, .cons ra rb, fun hd hm => ?_⟩
      rcases List.mem_append.mp hm with e | e
      · exact ha hd e
      · exact hb hd e
theorem showAll_rep (d : PyData) : ∀ n : Nat, PyData.shownAll (List.replicate n d) = List.replicate n d.shown
  | 0 => by simp only [List.replicate_zero, PyData.shownAll]
  | n + 1 => by rw [List.replicate_succ, List.replicate_succ]; simp only [PyData.shownAll, showAll_rep d n]
theorem showable_rep (d : PyData) (h : d.showable = true) : ∀ n : Nat, PyData.showableAll (List.replicate n d) = true
  | 0 => by simp only [List.replicate_zero, PyData.showableAll]
  | n + 1 => by rw [List.replicate_succ]; simp only [PyData.showableAll, h, showable_rep d h n, Bool.and_self]
theorem hasDict_rep (d : PyData) : ∀ n : Nat, PyData.hasDictAll (List.replicate n d) = true → d.hasDict = true
  | 0, h => by simp [PyData.hasDictAll] at h
  | n + 1, h => by
    rw [List.replicate_succ] at h
    simp only [PyData.hasDictAll, Bool.or_eq_true] at h
    rcases h with h | h
    · exact h
    · exact hasDict_rep d n h
theorem depth_rep (d : PyData) : ∀ n : Nat, PyData.depthAll (List.replicate n d) ≤ d.depth
  | 0 => by simp only [List.replicate_zero, PyData.depthAll]; exact Nat.zero_le _
  | n + 1 => by
    have := depth_rep d n
    rw [List.replicate_succ]
    simp only [PyData.depthAll]
    omega
/-- repr of a list in which one thing stands n + 1 times -/
def rReprR (K : PySem.W.Frag) (xs : List V) (H : Hp) (Q : VK) : Prop := ∃ (p : Addr) (n : Nat) (v : V) (d : PyData), xs = [.ref p] ∧ H p = some (.lst (List.replicate (n + 1) v)) ∧ ThD K H v d ∧ d.showable = true ∧
  (listText (List.replicate (n + 1) d.shown)).length ≤ sizeLine ∧ d.depth ≤ 50 ∧ Q (.str (listText (List.replicate (n + 1) d.shown))) H
theorem call_reprR (gd : X.A.guards = some []) (hu : X.A.units + 65 < cLine) : CallR X (.builtin "repr") (rReprR X.K) := by
  intro pins s σ H xs us Q I r h
  obtain ⟨p, n, v, d, rfl, hp, th, hs, hz, hd, q⟩ := h
  obtain ⟨u, rfl, ru⟩ := vals1 r
  cases (show u = Value.ref p from ru)
  obtain ⟨hl, vs, c, rv, ho⟩ := (show ObjOk X.prog X.w H s.heap p (.lst (List.replicate (n + 1) v)) from I.hok p _ hp)
  obtain ⟨as, ra, no⟩ := th_all I th (n + 1) vs rv
  have rl : Reads s.heap (.ref p) (.list (List.replicate (n + 1) d)) (p :: as) := Reads.list ho rfl rfl (by simpa using ra)
  have hda := depth_rep d (n + 1)
  obtain ⟨bs, hb, hk⟩ := ReprAllK.of_readsAll (prog := X.prog) (w := X.w) ra (showable_rep d hs _) (fun hx => no (hasDict_rep d _ hx)) (fun t ht => Nat.le_trans (listText_mem_le ht) (by rw [showAll_rep]; exact hz))
  have hna : p ∉ bs := not_mem_of_deeper rl (by simp only [PyData.depth]; omega) hb
  rw [showAll_rep] at hk
  cases vs with
  | nil =>
    rw [List.replicate_succ] at rv
    cases rv
  | cons x l =>
    refine call_repr_slot (by omega) ⟨_, ho, rfl⟩ F.slot_list_repr.toG ?_
    exact call_list_reprK ho rfl rfl hna (by simpa using hk.length_eq) (fun i y e => hk.item i y (by simpa using e)) (show X.A.in1.guards = some [] from gd) (fun b _ => Clear.nil b) (by show X.A.units + 1 + (PyData.depthAll (List.replicate (n + 1) d) + 1) < cLine; omega) (fun _ _ z => z)
      (fun h' u tk keep => ⟨_, _, rfl, .str _, H, I.kept (t' := tk) keep, ⟨_, rfl⟩, q⟩) hz
end
end OO

/-! The rows that the laws draw, as data: what they keep. -/
namespace GG
open PySem PySem.Spec PyProof.Rows L2 TL
abbrev T1 (w : Str) : PyData := .tuple [.str w]
abbrev TS (n : Str) : PyData := .tuple [.str "start", .str n]
abbrev TA3 (m : Str) (o : List PyData) : PyData := .tuple [.str "ask", .str m, .tuple o]
/-- items that keep the rules from where one is under way (u), has the lock (l): to the end, closed; ns, ms: the names of works and marks; t: let may be the last one; a: asks may be there -/
inductive RowOk (ns ms : List Str) (t : Bool) : Bool → Bool → Bool → List PyData → Prop
  | nil {a} : RowOk ns ms t a false false []
  | lets {a} : t = true → RowOk ns ms t a false false [T1 "let"]
  | plain {a u l w r} : w ∈ (["touch", "use"] : List Str) → RowOk ns ms t a u l r → RowOk ns ms t a u l (T1 w :: r)
  | start {a u l n r} : n ∈ ns → RowOk ns ms t a u l r → RowOk ns ms t a u l (TS n :: r)
  | enter {a l r} : RowOk ns ms t a true l r → RowOk ns ms t a false l (T1 "enter" :: r)
  | leave {a l r} : RowOk ns ms t a false l r → RowOk ns ms t a true l (T1 "leave" :: r)
  | lock {a u r} : RowOk ns ms t a u true r → RowOk ns ms t a u false (T1 "lock" :: r)
  | unlock {a u r} : RowOk ns ms t a u false r → RowOk ns ms t a u true (T1 "unlock" :: r)
  | ask {u l m o r} : m ∈ ms → RowOk ns ms t false u l o → o.length ≤ 4 → RowOk ns ms t true u l r → RowOk ns ms t true u l (TA3 m o :: r)
/-- the number of items, with those in ways out -/
def size1 : PyData → Nat
  | .tuple [_, _, .tuple o] => 1 + o.length
  | _ => 1
def sizeR (r : List PyData) : Nat := (r.map size1).sum
theorem sizeR_app (a b : List PyData) : sizeR (a ++ b) = sizeR a + sizeR b := by
  unfold sizeR
  rw [List.map_append, List.sum_append]
/-- what a way's end may be -/
def IsClosing (u l t : Bool) (c : List PyData) : Prop := ∃ b k : List PyData, c = b ++ k ∧ (k = [] ∨ (t = true ∧ k = [T1 "let"])) ∧
  (b = (if l then [T1 "unlock"] else []) ++ (if u then [T1 "leave"] else []) ∨ b = (if u then [T1 "leave"] else []) ++ (if l then [T1 "unlock"] else []))
theorem IsClosing.ok {ns ms : List Str} {u l t a : Bool} {c : List PyData} (h : IsClosing u l t c) : RowOk ns ms t a u l c ∧ sizeR c ≤ 3 ∧ c.length ≤ 3 := by
  obtain ⟨b, k, rfl, hk, hb⟩ := h
  have e : RowOk ns ms t a false false k ∧ sizeR k ≤ 1 ∧ k.length ≤ 1 := by
    rcases hk with rfl | ⟨ht, rfl⟩
    · exact ⟨.nil, by decide, by decide⟩
    · exact ⟨.lets ht, by decide +kernel, by decide⟩
  obtain ⟨e1, e2, e3⟩ := e
  have s1 : sizeR [T1 "unlock"] = 1 := rfl
  have s2 : sizeR [T1 "leave"] = 1 := rfl
  cases u <;> cases l <;> rcases hb with rfl | rfl <;> simp only [if_true, Bool.false_eq_true, if_false, List.nil_append, List.append_nil, List.cons_append, List.length_cons, List.length_append] at *
  · exact ⟨e1, by omega, by omega⟩
  · exact ⟨e1, by omega, by omega⟩
  · exact ⟨.unlock e1, by show 1 + sizeR k ≤ 3; omega, by omega⟩
  · exact ⟨.unlock e1, by show 1 + sizeR k ≤ 3; omega, by omega⟩
  · exact ⟨.leave e1, by show 1 + sizeR k ≤ 3; omega, by omega⟩
  · exact ⟨.leave e1, by show 1 + sizeR k ≤ 3; omega, by omega⟩
  · exact ⟨.unlock (.leave e1), by show 1 + (1 + sizeR k) ≤ 3; omega, by omega⟩
  · exact ⟨.leave (.unlock e1), by show 1 + (1 + sizeR k) ≤ 3; omega, by omega⟩
/-- items so far: whatever goes on well from u, l, is well from the beginning -/
def Pfx (ns ms : List Str) (t a : Bool) (items : List PyData) (u l : Bool) : Prop := ∀ r, RowOk ns ms t a u l r → RowOk ns ms t a false false (items ++ r)
theorem Pfx.nil {ns ms : List Str} {t a : Bool} : Pfx ns ms t a [] false false := fun r h => h
theorem Pfx.snoc {ns ms : List Str} {t a : Bool} {items : List PyData} {u l u' l' : Bool} {i : PyData} (h : Pfx ns ms t a items u l) (k : ∀ r, RowOk ns ms t a u' l' r → RowOk ns ms t a u l (i :: r)) : Pfx ns ms t a (items ++ [i]) u' l' := fun r hr => by
  rw [List.append_assoc]
  exact h _ (k r hr)
/-- u behind an item of the word w, as the law reckons it -/
abbrev nextB (u : Bool) (w a b : Str) : Bool := !decide (V.bl u = V.bl (inV (.str w) [.str a, .str b]))
/-- an item that may stand where one is at u, l -/
def ItemFor (ns ms : List Str) (t u l : Bool) (w : Str) (rest : List PyData) : Prop :=
  ∀ r, RowOk ns ms t true (nextB u w "enter" "leave") (nextB l w "lock" "unlock") r → RowOk ns ms t true u l (.tuple (.str w :: rest) :: r)
theorem item_plain {ns ms : List Str} {t u l : Bool} {w : Str} (h : w ∈ (["touch", "use"] : List Str)) : ItemFor ns ms t u l w [] := by
  intro r hr
  simp only [List.mem_cons, List.not_mem_nil, or_false] at h
  rcases h with rfl | rfl
  · have e1 : nextB u "touch" "enter" "leave" = u := by cases u <;> decide +kernel
    have e2 : nextB l "touch" "lock" "unlock" = l := by cases l <;> decide +kernel
    rw [e1, e2] at hr
    exact .plain (by decide) hr
  · have e1 : nextB u "use" "enter" "leave" = u := by cases u <;> decide +kernel
    have e2 : nextB l "use" "lock" "unlock" = l := by cases l <;> decide +kernel
    rw [e1, e2] at hr
    exact .plain (by decide) hr
theorem item_el {ns ms : List Str} {t u l : Bool} : ItemFor ns ms t u l (if u = true then "leave" else "enter") [] := by
  intro r hr
  cases u with
  | true =>
    have e1 : nextB true "leave" "enter" "leave" = false := by decide +kernel
    have e2 : nextB l "leave" "lock" "unlock" = l := by cases l <;> decide +kernel
    have hr : RowOk ns ms t true (nextB true "leave" "enter" "leave") (nextB l "leave" "lock" "unlock") r := hr
    rw [e1, e2] at hr
    exact .leave hr
  | false =>
    have e1 : nextB false "enter" "enter" "leave" = true := by decide +kernel
    have e2 : nextB l "enter" "lock" "unlock" = l := by cases l <;> decide +kernel
    have hr : RowOk ns ms t true (nextB false "enter" "enter" "leave") (nextB l "enter" "lock" "unlock") r := hr
    rw [e1, e2] at hr
    exact .enter hr
theorem item_lu {ns ms : List Str} {t u l : Bool} : ItemFor ns ms t u l (if l = true then "unlock" else "lock") [] := by
  intro r hr
  cases l with
  | true =>
    have e1 : nextB u "unlock" "enter" "leave" = u := by cases u <;> decide +kernel
    have e2 : nextB true "unlock" "lock" "unlock" = false := by decide +kernel
    have hr : RowOk ns ms t true (nextB u "unlock" "enter" "leave") (nextB true "unlock" "lock" "unlock") r := hr
    rw [e1, e2] at hr
    exact .unlock hr
  | false =>
    have e1 : nextB u "lock" "enter" "leave" = u := by cases u <;> decide +kernel
    have e2 : nextB false "lock" "lock" "unlock" = true := by decide +kernel
    have hr : RowOk ns ms t true (nextB u "lock" "enter" "leave") (nextB false "lock" "lock" "unlock") r := hr
    rw [e1, e2] at hr
    exact .lock hr
theorem item_start {ns ms : List Str} {t u l : Bool} {n : Str} (h : n ∈ ns) : ItemFor ns ms t u l "start" [.str n] := by
  intro r hr
  have e1 : nextB u "start" "enter" "leave" = u := by cases u <;> decide +kernel
  have e2 : nextB l "start" "lock" "unlock" = l := by cases l <;> decide +kernel
  rw [e1, e2] at hr
  exact .start h hr
theorem item_ask {ns ms : List Str} {t u l : Bool} {m : Str} {o : List PyData} (h : m ∈ ms) (ho : RowOk ns ms t false u l o) (h4 : o.length ≤ 4) : ItemFor ns ms t u l "ask" [.str m, .tuple o] := by
  intro r hr
  have e1 : nextB u "ask" "enter" "leave" = u := by cases u <;> decide +kernel
  have e2 : nextB l "ask" "lock" "unlock" = l := by cases l <;> decide +kernel
  rw [e1, e2] at hr
  exact .ask h ho h4 hr
theorem in23 {w : Int} (h : inV (.int w) [.int 2, .int 3] = true) : w = 2 ∨ w = 3 := by
  have h : ((2 : Int) == w || ((3 : Int) == w || false)) = true := h
  simp only [Bool.or_false, Bool.or_eq_true, beq_iff_eq] at h
  omega
theorem not23 {w : Int} (h : ¬ inV (.int w) [.int 2, .int 3] = true) : w ≠ 2 ∧ w ≠ 3 := by
  have h : ¬ ((2 : Int) == w || ((3 : Int) == w || false)) = true := h
  simp only [Bool.or_false, Bool.or_eq_true, beq_iff_eq] at h
  omega
theorem two_at {x y : V} (u : Bool) : atI [x, y] (if u = true then 1 else 0) = some (if u = true then y else x) := by
  cases u <;> rfl
theorem eq_dec {w k : Int} (h : decide (V.int w = V.int k) = true) : w = k := V.int.inj (of_decide_eq_true h)
theorem ne_dec {w k : Int} (h : ¬ decide (V.int w = V.int k) = true) : w ≠ k := fun e => h (decide_eq_true (by rw [e]))
/-- a new list at x of what stands for the data ds -/
def LD (K : PySem.W.Frag) (R : Hp) (x : V) (ds : List PyData) : Prop := ∃ (a : Addr) (vs : List V), x = .ref a ∧ R a = some (.lst vs) ∧ DpAll K R vs ds
theorem LD.same {K : PySem.W.Frag} {R R' : Hp} {x : V} {ds : List PyData} (h : LD K R x ds) (s : Same R R') : LD K R' x ds := by
  obtain ⟨a, vs, h1, h2, h3⟩ := h
  exact ⟨a, vs, h1, s _ _ h2, dpAll_same s _ _ h3⟩
section
variable {K : PySem.W.Frag} {p : Addr} {R H : Hp}
/-- a list and another one, joined -/
theorem catL {a b : V} {ds es : List PyData} {Q : VK} (k : Rest p R H) (ha : LD K R a ds) (hb : LD K R b es) (hl : ds.length + es.length ≤ 1000) (hq : ∀ x R' H', Go p R H R' H' → LD K R' x (ds ++ es) → Q x H') : rCat a b H Q := by
  obtain ⟨a, vs, rfl, h2, h3⟩ := ha
  obtain ⟨b, ws, rfl, k2, k3⟩ := hb
  have l1 := dpAll_len h3
  have l2 := dpAll_len k3
  exact ⟨a, b, vs, ws, rfl, rfl, k.1 _ _ h2, k.1 _ _ k2, Nat.le_of_lt (small1000 (by omega)), fun x hx => hq _ _ _ (Go.new k hx) ⟨x, _, rfl, upd_same, dpAll_same (Go.new k hx).same _ _ (dpAll_app h3 k3)⟩⟩
/-- a list once or not at all -/
theorem repL {a : V} {ds : List PyData} {b : Bool} {Q : VK} (k : Rest p R H) (ha : LD K R a ds) (hl : ds.length ≤ 1000) (hq : ∀ x R' H', Go p R H R' H' → LD K R' x (if b then ds else []) → Q x H') : rRep a (.int (if b then 1 else 0)) H Q := by
  obtain ⟨a, vs, rfl, h2, h3⟩ := ha
  have l1 := dpAll_len h3
  cases b with
  | true =>
    refine ⟨a, _, vs, rfl, rfl, k.1 _ _ h2, by decide, by decide, ?_, fun x hx => ?_⟩
    · show vs.length * 1 ≤ sizeLine
      exact Nat.le_of_lt (small1000 (by omega))
    · have e : (List.replicate (if true = true then (1 : Int) else 0).toNat vs).flatten = vs := by
        show vs ++ [] = vs
        rw [List.append_nil]
      rw [e]
      exact hq _ _ _ (Go.new k hx) ⟨x, _, rfl, upd_same, dpAll_same (Go.new k hx).same _ _ h3⟩
  | false =>
    refine ⟨a, _, vs, rfl, rfl, k.1 _ _ h2, by decide, by decide, ?_, fun x hx => ?_⟩
    · show vs.length * 0 ≤ sizeLine
      omega
    · exact hq _ _ _ (Go.new k hx) ⟨x, _, rfl, upd_same, .nil⟩
/-- a list of one tuple, new -/
theorem new1 {u : Addr} {ds : PyData} {l : Addr} (k : Rest p R H) (hu : Dp K R (.ref u) ds) (hl : H l = none) : Go p R H (upd R l (.lst [.ref u])) (upd H l (.lst [.ref u])) ∧ LD K (upd R l (.lst [.ref u])) (.ref l) [ds] :=
  ⟨Go.new k hl, l, _, rfl, upd_same, .cons (dp_same (Go.new (o := .lst [.ref u]) k hl).same _ _ hu) .nil⟩
theorem dpAll_rev : ∀ {vs : List V} {ds : List PyData}, DpAll K R vs ds → DpAll K R vs.reverse ds.reverse
  | _, _, .nil => .nil
  | _, _, .cons h r => by
    rw [List.reverse_cons, List.reverse_cons]
    exact dpAll_app (dpAll_rev r) (.cons h .nil)
theorem revL {vs : List V} {ds : List PyData} {l : Addr} (k : Rest p R H) (hl : H l = none) (h : DpAll K R vs ds) : LD K (upd R l (.lst vs.reverse)) (.ref l) ds.reverse :=
  ⟨l, _, rfl, upd_same, dpAll_same (Go.new (o := .lst vs.reverse) k hl).same _ _ (dpAll_rev h)⟩
theorem four_of {e1 e2 l3 l4 : Addr} {v : V} (f1 : LD K R (.ref e1) []) (f2 : LD K R (.ref e2) []) (f3 : LD K R (.ref l3) [T1 "touch"]) (f4 : LD K R (.ref l4) [T1 "use"]) (hv : v ∈ [V.ref e1, .ref e2, .ref l3, .ref l4]) :
    ∃ ex, LD K R v ex ∧ (ex = [] ∨ ex = [T1 "touch"] ∨ ex = [T1 "use"]) := by
  simp only [List.mem_cons, List.not_mem_nil, or_false] at hv
  rcases hv with rfl | rfl | rfl | rfl
  · exact ⟨_, f1, .inl rfl⟩
  · exact ⟨_, f2, .inl rfl⟩
  · exact ⟨_, f3, .inr (.inl rfl)⟩
  · exact ⟨_, f4, .inr (.inr rfl)⟩
/-- a new object that is kept apart for a while -/
theorem dp_two {u : Bool} {x y : V} {a b : Str} (h1 : Dp K R x (T1 a)) (h2 : Dp K R y (T1 b)) : Dp K R (if u = true then y else x) (T1 (if u = true then b else a)) := by
  cases u with
  | true => exact h2
  | false => exact h1
theorem one_of {u1 u2 : Addr} {v : V} (d1 : Dp K R (.ref u1) (T1 "touch")) (d2 : Dp K R (.ref u2) (T1 "use")) (hv : v ∈ [V.ref u1, .ref u2]) : ∃ w : Str, Dp K R v (T1 w) ∧ w ∈ (["touch", "use"] : List Str) := by
  simp only [List.mem_cons, List.not_mem_nil, or_false] at hv
  rcases hv with rfl | rfl
  · exact ⟨_, d1, by decide⟩
  · exact ⟨_, d2, by decide⟩
theorem cut2_nil {ds : List PyData} (h : ds.length ≤ 2) : cutG ds (some 2) none = [] := by
  match ds, h with
  | [], _ => rfl
  | [_], _ => rfl
  | [_, _], _ => rfl
theorem dp_unit {y : V} (h : Dp K R y (.tuple [])) : ∃ ya : Addr, y = .ref ya ∧ SqT K R ya [] := by
  cases h with
  | tup h1 h2 =>
    cases h2
    exact ⟨_, rfl, h1⟩
theorem dp_head {y : V} {w : Str} {rest : List PyData} (h : Dp K R y (.tuple (.str w :: rest))) : ∃ (ya : Addr) (xs : List V), y = .ref ya ∧ SqT K R ya xs ∧ atI xs 0 = some (.str w) := by
  cases h with
  | tup h1 h2 =>
    cases h2 with
    | cons h3 _ =>
      cases h3
      exact ⟨_, _, rfl, h1, atI_nat (j := 0) rfl⟩
theorem dp_third {y : V} {a b : PyData} {o : List PyData} (h : Dp K R y (.tuple [a, b, .tuple o])) : ∃ (ya oa : Addr) (xs ys : List V), y = .ref ya ∧ SqT K R ya xs ∧ atI xs 2 = some (.ref oa) ∧ SqT K R oa ys ∧ ys.length = o.length := by
  cases h with
  | tup h1 h2 =>
    cases h2 with
    | cons h3 h4 =>
      cases h4 with
      | cons h5 h6 =>
        cases h6 with
        | cons h7 h8 =>
          cases h8
          cases h7 with
          | tup k1 k2 => exact ⟨_, _, _, _, rfl, h1, atI_nat (j := 2) rfl, k1, dpAll_len k2⟩
theorem dp_single {y : V} {d : PyData} (h : Dp K R y (.tuple [d])) : ∃ (ya : Addr) (v : V), y = .ref ya ∧ SqT K R ya [v] := by
  cases h with
  | tup h1 h2 =>
    cases h2 with
    | cons h3 h4 =>
      cases h4
      exact ⟨_, _, rfl, h1⟩
theorem go_hid {li : Addr} {o : HO} (k : Rest p R H) (h : H li = none) : Go p R H R (upd H li o) :=
  ⟨Same.refl _, k.put (k.1.free h) (k.ne h), fun b _ x e => same_upd h b x e, fun _ _ _ h => h⟩
theorem go_put {R0 H0 : Hp} {li : Addr} {o : HO} (g : Go p R0 H0 R H) (h0 : H0 li = none) (hR : R li = none) (hne : li ≠ p) : Go p R0 H0 R (upd H li o) :=
  ⟨g.same, g.rest.put hR hne, fun b hb x e => by
    rw [upd_ne (ne_of_none e h0)]
    exact g.keep b hb x e, g.fresh⟩
theorem go_put2 {R0 H0 : Hp} {li : Addr} (o : HO) (g : Go p R0 H0 R H) (h0 : H0 li = none) (hR : R li = none) (hne : li ≠ p) : Go p R0 H0 R (upd H li o) ∧ upd H li o li = some o := ⟨go_put g h0 hR hne, upd_same⟩
theorem go_new2 {l : Addr} (o : HO) (k : Rest p R H) (h : H l = none) : Go p R H (upd R l o) (upd H l o) := Go.new k h
/-- what was kept apart is let in -/
theorem go_show {R0 H0 : Hp} {li : Addr} {o : HO} (g : Go p R0 H0 R H) (h0 : H0 li = none) (hR : R li = none) (hne : li ≠ p) (hH : H li = some o) : Go p R0 H0 (upd R li o) H := by
  obtain ⟨s0, hRp, d, ns, n, hp, hd, hn⟩ := g.rest
  have e1 : Same R (upd R li o) := same_upd hR
  refine ⟨g.same.trans e1, ⟨fun b x e => ?_, by rw [upd_ne hne.symm]; exact hRp, d, ns, n, hp, e1 _ _ hd, hn⟩, g.keep, fun b x e hr => ?_⟩
  · by_cases hb : b = li
    · subst hb
      rw [upd_same] at e
      rw [hH, e]
    · rw [upd_ne hb] at e
      exact s0 b x e
  · rw [upd_ne (ne_of_none e h0)]
    exact g.fresh b x e hr
theorem closeLast {R0 H0 : Hp} {u l t : Bool} {x3 x6 : V} {bs : List PyData} {Q : VK} (q : ∀ x R' H' c, Go p R0 H0 R' H' → LD K R' x c → IsClosing u l t c → Q x H') (g : Go p R0 H0 R H) (f3 : LD K R x3 bs) (f6 : LD K R x6 [T1 "let"]) (hl : bs.length ≤ 10)
    (hq : ∀ k' : List PyData, (k' = [] ∨ (t = true ∧ k' = [T1 "let"])) → IsClosing u l t (bs ++ k')) (b : Bool) (hb : b = true → t = true) : rRep x6 (.int (if b = true then 1 else 0)) H (fun y H2 => rCat x3 y H2 Q) := by
  refine repL g.rest f6 (by decide) fun x7 Ri Hi gi f7 => catL (g.trans gi).rest (f3.same gi.same) f7 ?_ fun x8 Rj Hj gj f8 => q _ _ _ _ ((g.trans gi).trans gj) f8 (hq _ ?_)
  · have : (if b = true then [T1 "let"] else []).length ≤ 1 := by cases b <;> decide
    omega
  · cases b with
    | true => exact .inr ⟨hb rfl, rfl⟩
    | false => exact .inl rfl
end
end GG

namespace GG
open PySem PySem.Spec PyProof.Rows L2 TL
/-- the names that a law draws from are plain -/
def NamesOk (ns : List Str) : Prop := ∀ n ∈ ns, Sane n ∧ n.length ≤ 100
theorem good_name {ns : List Str} {n : Str} (h : NamesOk ns) (hn : n ∈ ns) (k : Nat) : Good k (.str n) := good_str (by have := (h n hn).2; omega) (h n hn).1 k
theorem good_word (w : Str) (h : okD (.str w) = true) (k : Nat) : Good k (.str w) := ⟨h, Nat.zero_le _⟩
theorem rowOk_good {ns ms : List Str} {t : Bool} (h1 : NamesOk ns) (h2 : NamesOk ms) : ∀ {a u l : Bool} {r : List PyData}, RowOk ns ms t a u l r → ∀ d ∈ r, Good (if a = true then 4 else 2) d := by
  have one : ∀ (a : Bool) (w : Str), okD (.str w) = true → Good (if a = true then 4 else 2) (T1 w) := fun a w hw => Good.mono (n := 2) (good_t (n := 1) (by show 1 ≤ 1000; decide) (fun d hd => by
    rw [List.mem_singleton] at hd
    rw [hd]
    exact good_word w hw 1)) (by cases a <;> decide)
  intro a u l r h
  induction h with
  | nil => intro d hd; cases hd
  | lets _ => intro d hd; rw [List.mem_singleton] at hd; rw [hd]; exact one _ _ (by decide +kernel)
  | plain hw _ ih =>
    intro d hd
    rcases List.mem_cons.mp hd with rfl | hd
    · simp only [List.mem_cons, List.not_mem_nil, or_false] at hw
      rcases hw with rfl | rfl <;> exact one _ _ (by decide +kernel)
    · exact ih d hd
  | @start a u l n r hn _ ih =>
    intro d hd
    rcases List.mem_cons.mp hd with rfl | hd
    · refine Good.mono (n := 2) (good_t (n := 1) (by show 2 ≤ 1000; decide) (fun e he => ?_)) (by cases a <;> decide)
      rw [List.mem_cons, List.mem_singleton] at he
      rcases he with rfl | rfl
      · exact good_word _ (by decide +kernel) 1
      · exact good_name h1 hn 1
    · exact ih d hd
  | enter _ ih => intro d hd; rcases List.mem_cons.mp hd with rfl | hd; exact one _ _ (by decide +kernel); exact ih d hd
  | leave _ ih => intro d hd; rcases List.mem_cons.mp hd with rfl | hd; exact one _ _ (by decide +kernel); exact ih d hd
  | lock _ ih => intro d hd; rcases List.mem_cons.mp hd with rfl | hd; exact one _ _ (by decide +kernel); exact ih d hd
  | unlock _ ih => intro d hd; rcases List.mem_cons.mp hd with rfl | hd; exact one _ _ (by decide +kernel); exact ih d hd
  | ask hm ho h4 _ iho ih =>
    intro d hd
    rcases List.mem_cons.mp hd with rfl | hd
    · refine good_t (n := 3) (by show 3 ≤ 1000; decide) (fun e he => ?_)
      simp only [List.mem_cons, List.not_mem_nil, or_false] at he
      rcases he with rfl | rfl | rfl
      · exact good_word _ (by decide +kernel) 3
      · exact good_name h2 hm 3
      · exact good_t (n := 2) (by omega) iho
    · exact ih d hd
theorem size1_pos (d : PyData) : 1 ≤ size1 d := by
  unfold size1
  split <;> omega
theorem sizeR_len : ∀ r : List PyData, r.length ≤ sizeR r
  | [] => Nat.le_refl _
  | d :: r => by
    have h1 := size1_pos d
    have h2 := sizeR_len r
    show r.length + 1 ≤ size1 d + sizeR r
    omega
/-- the openings of a hand -/
def opens : List (List Str) := [["look", "hold"], ["look", "try"], ["lock", "look", "hold", "unlock"], ["lock", "look", "try", "unlock"], ["lock", "look", "unlock", "hold"], ["lock", "look", "unlock", "try"]]
/-- a hand's row that keeps the rules -/
def HandOk (ns ms : List Str) (ds : List PyData) : Prop := ∃ op b, op ∈ opens ∧ ds = op.map T1 ++ b ∧ RowOk ns ms true true false false b ∧ sizeR b + op.length ≤ 14
/-- a work's row that keeps the rules -/
def WorkOk (ns ms : List Str) (ds : List PyData) : Prop := RowOk ns ms false true false false ds ∧ ds ≠ [] ∧ sizeR ds ≤ 9
section
variable {K : PySem.W.Frag} {p : Addr} {R H : Hp}
theorem dpAll_of_get : ∀ {vs : List V} {ds : List PyData}, vs.length = ds.length → (∀ (i : Nat) (y : V) (d : PyData), vs[i]? = some y → ds[i]? = some d → Dp K R y d) → DpAll K R vs ds
  | [], [], _, _ => .nil
  | v :: vs, d :: ds, hl, h => .cons (h 0 v d rfl rfl) (dpAll_of_get (by simpa using hl) fun i y e h1 h2 => h (i + 1) y e h1 h2)
/-- a comprehension that draws, place by place -/
theorem lc_goI {J : It} {n : Nat} {G : Hp → Prop} {Y : Nat → Hp → V → Hp → Prop} (wk : Walk J n G Y) {D : Addr} (hn : n ≤ 1000) (k : Rest p R H) (hD : H D = none) (hG : ∀ R1 H1, Go p R H R1 H1 → G H1)
    (PP : Nat → Hp → V → Prop) (Pm : ∀ i R1 R2 y, Same R1 R2 → PP i R1 y → PP i R2 y) {g : TG} {tt : TT} {te : TE} {vs : List Nat} {σ : L2.St} {Qd : Hp → Prop}
    (hs : ∀ i x R1 H1 H1', i < n → Go p R H R1 H1 → Y i H1 x H1' → ∀ (C : V → Hp → Prop) (E : Hp → Prop), (∀ R2 H2 y, Go p R1 H1 R2 H2 → PP i R2 y → C y H2) →
      g x (wipe σ vs) H1' fun σ2 H2 => wipe σ2 vs = wipe σ vs ∧ tt σ2 H2 fun b H3 => if b = true then te σ2 H3 C else E H3)
    (hd : ∀ R1 H1 ys, Go p R H R1 H1 → R1 D = some (.lst ys) → ys.length = n → (∀ (i : Nat) (y : V), ys[i]? = some y → PP i R1 y) → Qd H1) :
    ∃ W : Nat → Nat → Hp → Prop, (∃ m, W 0 m (upd H D (.lst []))) ∧ ∀ i m H, W i m H →
      (J.stop i H ∧ Qd H) ∨ (J.go i H ∧ ∃ Nx : Hp → Prop, (∀ H', Nx H' → ∃ m', m' < m ∧ W (i + 1) m' H') ∧ ∀ x H', J.yld i H x H' → g x (wipe σ vs) H' fun σ2 H2 => wipe σ2 vs = wipe σ vs ∧ tt σ2 H2 fun b H3 =>
        if b = true then te σ2 H3 fun y H4 => ∃ acc, H4 D = some (.lst acc) ∧ acc.length < sizeLine ∧ Nx (upd H4 D (.lst (acc ++ [y]))) else Nx H3) := by
  have hne := k.ne hD
  have hRD : R D = none := k.1.free hD
  refine lc_it wk (fun i H' => ∃ R1, Go p R H R1 H' ∧ R1 D = none ∧ ∃ ys : List V, H' D = some (.lst ys) ∧ ys.length = i ∧ ∀ (j : Nat) (y : V), ys[j]? = some y → PP j R1 y) ?_ ?_ ?_ ?_
  · exact ⟨R, go_hid k hD, hRD, [], upd_same, rfl, fun j y h => by simp at h⟩
  · rintro i H' _ ⟨R1, g1, _⟩
    exact hG R1 H' g1
  · rintro i x H1 H1' hi ⟨R1, g1, hR1, ys, hy, hl, hP⟩ hY
    refine hs i x R1 H1 H1' hi g1 hY _ _ fun R2 H2 y g2 hp => ⟨ys, g2.keep D hne _ hy, small1000 (by omega), R2, go_put (g1.trans g2) hD (g2.fresh D _ hy hR1) hne, g2.fresh D _ hy hR1, ys ++ [y], upd_same, ?_, ?_⟩
    · rw [List.length_append, List.length_singleton, hl]
    · intro j u hu
      by_cases hj : j < ys.length
      · rw [List.getElem?_append_left hj] at hu
        exact Pm j R1 R2 u g2.same (hP j u hu)
      · rw [List.getElem?_append_right (by omega)] at hu
        have hj2 := (List.getElem?_eq_some_iff.mp hu).1
        rw [List.length_singleton] at hj2
        have ej : j - ys.length = 0 := by omega
        rw [ej] at hu
        have eu : y = u := Option.some.inj hu
        have ei : j = i := by omega
        rw [← eu, ei]
        exact hp
  · rintro H1 ⟨R1, g1, hR1, ys, hy, hl, hP⟩
    exact hd _ H1 ys (go_show g1 hD hR1 hne hy) upd_same hl fun j y h => Pm j _ _ y (same_upd hR1) (hP j y h)
/-- a list of texts, new -/
theorem six_of {l1 l2 l3 l4 l5 l6 : Addr} {x : V} (h1 : R l1 = some (.lst [.str "look", .str "hold"])) (h2 : R l2 = some (.lst [.str "look", .str "try"])) (h3 : R l3 = some (.lst [.str "lock", .str "look", .str "hold", .str "unlock"]))
    (h4 : R l4 = some (.lst [.str "lock", .str "look", .str "try", .str "unlock"])) (h5 : R l5 = some (.lst [.str "lock", .str "look", .str "unlock", .str "hold"])) (h6 : R l6 = some (.lst [.str "lock", .str "look", .str "unlock", .str "try"]))
    (hx : x ∈ [V.ref l1, .ref l2, .ref l3, .ref l4] ++ [V.ref l5, .ref l6]) : ∃ (a : Addr) (op : List Str), x = .ref a ∧ R a = some (.lst (op.map V.str)) ∧ op ∈ opens := by
  simp only [List.cons_append, List.nil_append, List.mem_cons, List.not_mem_nil, or_false] at hx
  rcases hx with rfl | rfl | rfl | rfl | rfl | rfl
  · exact ⟨_, ["look", "hold"], rfl, h1, by decide⟩
  · exact ⟨_, ["look", "try"], rfl, h2, by decide⟩
  · exact ⟨_, ["lock", "look", "hold", "unlock"], rfl, h3, by decide⟩
  · exact ⟨_, ["lock", "look", "try", "unlock"], rfl, h4, by decide⟩
  · exact ⟨_, ["lock", "look", "unlock", "hold"], rfl, h5, by decide⟩
  · exact ⟨_, ["lock", "look", "unlock", "try"], rfl, h6, by decide⟩
theorem two_of {l3 l4 : Addr} {v : V} (f3 : LD K R (.ref l3) [T1 "touch"]) (f4 : LD K R (.ref l4) [T1 "use"]) (hv : v ∈ [V.ref l3, .ref l4]) : ∃ w : Str, LD K R v [T1 w] ∧ w ∈ (["touch", "use"] : List Str) := by
  simp only [List.mem_cons, List.not_mem_nil, or_false] at hv
  rcases hv with rfl | rfl
  · exact ⟨_, f3, by decide⟩
  · exact ⟨_, f4, by decide⟩
theorem opens_len {op : List Str} (h : op ∈ opens) : 2 ≤ op.length ∧ op.length ≤ 4 := by
  unfold opens at h
  simp only [List.mem_cons, List.not_mem_nil, or_false] at h
  rcases h with rfl | rfl | rfl | rfl | rfl | rfl <;> decide
end
end GG

/-! The puller's steps that the laws draw, as data. -/
namespace GG
open PySem PySem.Spec PyProof.Rows L2 TL
abbrev T2 (w n : Str) : PyData := .tuple [.str w, .str n]
/-- a step that the laws draw, of those that are no lock -/
def StepW (ns ms : List Str) (d : PyData) : Prop := (∃ w ∈ (["out", "wait", "empty", "down", "let"] : List Str), d = T1 w) ∨ (∃ m ∈ ms, d = T2 "mark" m) ∨ ∃ n ∈ ns, ∃ w ∈ (["bar", "forget", "idle"] : List Str), d = T2 w n
/-- a step that may stand there more than once -/
def RepW (d : PyData) : Prop := (∃ w ∈ (["wait", "empty"] : List Str), d = T1 w) ∨ ∃ n : Str, ∃ w ∈ (["bar", "forget", "idle"] : List Str), d = T2 w n
def StepsOk (ns ms : List Str) (ds : List PyData) : Prop := (∀ d ∈ ds, StepW ns ms d) ∧ ds.Pairwise fun a b => a = b → RepW a
/-- steps with lock and unlock put in -/
def LocksOf (ds es : List PyData) : Prop := es = ds ∨ ∃ a b c e k : List PyData, ds = (a ++ b) ++ c ∧ ((e = [] ∧ k = []) ∨ (e = [T1 "unlock"] ∧ (k = [] ∨ k = [T1 "lock"] ∨ k = [T1 "lock", T1 "unlock"]))) ∧ es = ((((a ++ [T1 "lock"]) ++ b) ++ e) ++ c) ++ k ∧ es.length ≤ 9
/-- a puller's row that the laws draw -/
def PullOk (ns ms : List Str) (es : List PyData) : Prop := ∃ ds, StepsOk ns ms ds ∧ ds.length ≤ 7 ∧ LocksOf ds es
theorem sIx_int (n d : Nat) {r : Int} (h0 : 0 ≤ r) (h1 : r ≤ n) : HT.sIx n d (some r) = r.toNat := by
  show (if r < 0 then (r + (n : Int)).toNat else min r.toNat n) = r.toNat
  rw [if_neg (by omega), Nat.min_eq_left (by omega)]
theorem cutG_lo {α : Type} (ds : List α) {r : Int} (h0 : 0 ≤ r) (h1 : r ≤ ds.length) : cutG ds none (some r) = ds.take r.toNat := by
  unfold cutG
  rw [sIx_int _ _ h0 h1, HT.sIx_none, List.drop_zero, Nat.sub_zero]
theorem cutG_hi {α : Type} (ds : List α) {r : Int} (h0 : 0 ≤ r) (h1 : r ≤ ds.length) : cutG ds (some r) none = ds.drop r.toNat := by
  unfold cutG
  rw [sIx_int _ _ h0 h1, HT.sIx_none, List.take_of_length_le (by rw [List.length_drop]; exact Nat.le_refl _)]
theorem cutG_mid {α : Type} (ds : List α) {r t : Int} (h0 : 0 ≤ r) (h1 : r ≤ t) (h2 : t ≤ ds.length) : cutG ds (some r) (some t) = (ds.drop r.toNat).take (t.toNat - r.toNat) := by
  unfold cutG
  rw [sIx_int _ _ h0 (by omega), sIx_int _ _ (by omega) h2]
theorem three_cuts {α : Type} (ds : List α) {r t : Int} (h0 : 0 ≤ r) (h1 : r ≤ t) (h2 : t ≤ ds.length) : ds = (cutG ds none (some r) ++ cutG ds (some r) (some t)) ++ cutG ds (some t) none := by
  rw [cutG_lo ds h0 (by omega), cutG_mid ds h0 h1 h2, cutG_hi ds (by omega) h2]
  have e : ds.take r.toNat ++ (ds.drop r.toNat).take (t.toNat - r.toNat) = ds.take t.toNat := by
    rw [← List.take_add]
    congr 1
    omega
  rw [e, List.take_append_drop]
section
variable {K : PySem.W.Frag} {p : Addr} {R H : Hp}
/-- a cut of a list -/
theorem sliceL {x : V} {ds : List PyData} {lo hi : Option Int} {Q : VK} (k : Rest p R H) (hx : LD K R x ds) (hq : ∀ y R' H', Go p R H R' H' → LD K R' y (cutG ds lo hi) → Q y H') : rSlL K x lo hi H Q := by
  obtain ⟨a, vs, rfl, h1, h2⟩ := hx
  exact ⟨a, vs, rfl, .inl (.inl (k.1 _ _ h1)), fun y hy => hq _ _ _ (Go.new k hy) ⟨y, _, rfl, upd_same, dpAll_same (Go.new k hy).same _ _ (dpAll_cut h2 lo hi)⟩⟩
theorem sliceLo {x : V} {ds : List PyData} {lo : Option Int} {σ : L2.St} {Q : VK} (k : Rest p R H) (hx : LD K R x ds) (hq : ∀ y R' H', Go p R H R' H' → LD K R' y (cutG ds lo none) → Q y H') : tNoPart σ H (fun u H3 => rSlL K x lo u H3 Q) := sliceL (hi := none) k hx hq
end
end GG

namespace GG
open PySem PySem.Spec PyProof.Rows L2 TL
theorem eqv_strs : ∀ xs ys : List Str, PyData.eqvAll (xs.map PyData.str) (ys.map PyData.str) = true ↔ xs = ys
  | [], [] => ⟨fun _ => rfl, fun _ => rfl⟩
  | [], y :: ys => iff_of_false (by intro h; cases h) (by intro h; cases h)
  | x :: xs, [] => iff_of_false (by intro h; cases h) (by intro h; cases h)
  | x :: xs, y :: ys => by
    show ((x == y) && PyData.eqvAll (xs.map PyData.str) (ys.map PyData.str)) = true ↔ _
    rw [Bool.and_eq_true_iff, eqv_strs xs ys, List.cons.injEq, beq_iff_eq]
theorem StepW.words {ns ms : List Str} {d : PyData} (h : StepW ns ms d) : ∃ (w : Str) (r : List Str), d = .tuple ((w :: r).map PyData.str) := by
  rcases h with ⟨w, _, rfl⟩ | ⟨m, _, rfl⟩ | ⟨n, _, w, _, rfl⟩
  · exact ⟨w, [], rfl⟩
  · exact ⟨"mark", [m], rfl⟩
  · exact ⟨w, [n], rfl⟩
theorem eqv_step {ns ms : List Str} {d e : PyData} (h : StepW ns ms d) (h' : StepW ns ms e) : PyData.eqv d e = true ↔ d = e := by
  obtain ⟨w, r, rfl⟩ := h.words
  obtain ⟨v, q, rfl⟩ := h'.words
  refine (eqv_strs (w :: r) (v :: q)).trans ⟨fun e => by rw [e], fun e => ?_⟩
  injection e with e
  exact List.map_inj_right (fun a b h => by injection h) |>.mp e
theorem step_good {ns ms : List Str} {d : PyData} (h1 : NamesOk ns) (h2 : NamesOk ms) (h : StepW ns ms d) : Good 1 d := by
  rcases h with ⟨w, hw, rfl⟩ | ⟨m, hm, rfl⟩ | ⟨n, hn, w, hw, rfl⟩
  · refine good_t (n := 0) (by show 1 ≤ 1000; decide) fun d hd => ?_
    rw [List.mem_singleton] at hd
    subst hd
    simp only [List.mem_cons, List.not_mem_nil, or_false] at hw
    rcases hw with rfl | rfl | rfl | rfl | rfl <;> exact good_word _ (by decide +kernel) 0
  · refine good_t (n := 0) (by show 2 ≤ 1000; decide) fun d hd => ?_
    rw [List.mem_cons, List.mem_singleton] at hd
    rcases hd with rfl | rfl
    · exact good_word _ (by decide +kernel) 0
    · exact good_name h2 hm 0
  · refine good_t (n := 0) (by show 2 ≤ 1000; decide) fun d hd => ?_
    rw [List.mem_cons, List.mem_singleton] at hd
    rcases hd with rfl | rfl
    · simp only [List.mem_cons, List.not_mem_nil, or_false] at hw
      rcases hw with rfl | rfl | rfl <;> exact good_word _ (by decide +kernel) 0
    · exact good_name h1 hn 0
theorem rep_of {ns ms : List Str} {w : Str} {r : List PyData} (h : StepW ns ms (.tuple (.str w :: r))) (hw : inV (.str w) [.str "wait", .str "empty", .str "bar", .str "forget", .str "idle"] = true) : RepW (.tuple (.str w :: r)) := by
  rcases h with ⟨v, hv, e⟩ | ⟨m, hm, e⟩ | ⟨n, hn, v, hv, e⟩
  · injection e with e
    injection e with e1 e2
    injection e1 with e1
    subst e1 e2
    simp only [List.mem_cons, List.not_mem_nil, or_false] at hv
    rcases hv with rfl | rfl | rfl | rfl | rfl
    · exact absurd hw (by decide +kernel)
    · exact .inl ⟨_, by decide, rfl⟩
    · exact .inl ⟨_, by decide, rfl⟩
    · exact absurd hw (by decide +kernel)
    · exact absurd hw (by decide +kernel)
  · injection e with e
    injection e with e1 e2
    injection e1 with e1
    subst e1
    exact absurd hw (by decide +kernel)
  · injection e with e
    injection e with e1 e2
    injection e1 with e1
    subst e1 e2
    exact .inr ⟨n, w, hv, rfl⟩
theorem rel_symm {a b : PyData} (h : a = b → RepW a) : b = a → RepW b := fun e => by
  subst e
  exact h rfl
theorem StepsOk.sub {ns ms : List Str} {ds es : List PyData} (h : StepsOk ns ms ds) (s : es.Sublist ds) : StepsOk ns ms es := ⟨fun d hd => h.1 d (s.subset hd), h.2.sublist s⟩
theorem StepsOk.ins {ns ms : List Str} {A B k ds : List PyData} (h : StepsOk ns ms ds) (e : A ++ B = ds) (hk : ∀ d ∈ k, StepW ns ms d) (hp : k.Pairwise fun a b => a = b → RepW a) (hx : ∀ a ∈ k, ∀ b ∈ ds, a = b → RepW a) : StepsOk ns ms ((A ++ k) ++ B) := by
  have pm : List.Perm ((A ++ k) ++ B) (k ++ ds) := by
    rw [← e, List.append_assoc]
    exact List.perm_append_comm_assoc _ _ _
  refine ⟨fun d hd => ?_, (pm.pairwise_iff (fun h => rel_symm h)).mpr (List.pairwise_append.mpr ⟨hp, h.2, hx⟩)⟩
  have hd := pm.subset hd
  rcases List.mem_append.mp hd with hd | hd
  · exact hk d hd
  · exact h.1 d hd
theorem del_sub (ds : List PyData) {r : Int} (h0 : 0 ≤ r) (h1 : r < ds.length) : (cutG ds none (some r) ++ cutG ds (some (r + 1)) none).Sublist ds ∧ (cutG ds none (some r) ++ cutG ds (some (r + 1)) none).length + 1 = ds.length := by
  rw [cutG_lo ds h0 (by omega), cutG_hi ds (by omega) (by omega)]
  constructor
  · refine (List.Sublist.append (List.Sublist.refl _) (List.drop_sublist_drop_left ds (i := r.toNat) (by omega))).trans ?_
    rw [List.take_append_drop]
    exact List.Sublist.refl _
  · rw [List.length_append, List.length_take, List.length_drop]
    omega
theorem cut_two {α : Type} (ds : List α) {r : Int} (h0 : 0 ≤ r) : cutG ds none (some r) ++ cutG ds (some r) none = ds := by
  have e : ∀ d, HT.sIx ds.length d (some r) = min r.toNat ds.length := fun d => by
    show (if r < 0 then (r + (ds.length : Int)).toNat else min r.toNat ds.length) = _
    rw [if_neg (by omega)]
  unfold cutG
  rw [e, e, HT.sIx_none, HT.sIx_none, List.drop_zero, Nat.sub_zero, List.take_of_length_le (l := ds.drop _) (by rw [List.length_drop]; exact Nat.le_refl _), List.take_append_drop]
/-- the steps that the law begins with -/
def ini (ns ms : List Str) (b : Bool) : List PyData := (((((([T1 "out"] ++ ms.map (T2 "mark")) ++ ns.map (T2 "bar")) ++ ns.map (T2 "forget")) ++ [T1 "wait"]) ++ ns.map (T2 "idle")) ++ (if b = true then [T1 "empty"] else [])) ++ [T1 "down", T1 "let"]
theorem ini_len (ns ms : List Str) (b : Bool) : 4 ≤ (ini ns ms b).length ∧ (ini ns ms b).length ≤ ms.length + 3 * ns.length + 5 := by
  unfold ini
  cases b <;> simp only [List.length_append, List.length_map, List.length_cons, List.length_nil, if_true, Bool.false_eq_true, if_false] <;> omega
theorem SOk.app {ns ms : List Str} {A B : List PyData} (h : StepsOk ns ms A) (k : StepsOk ns ms B) (hx : ∀ a ∈ A, ∀ b ∈ B, a = b → RepW a) : StepsOk ns ms (A ++ B) :=
  ⟨fun d hd => (List.mem_append.mp hd).elim (h.1 d) (k.1 d), List.pairwise_append.mpr ⟨h.2, k.2, hx⟩⟩
theorem SOk.rep {ns ms : List Str} {A B : List PyData} (h : StepsOk ns ms A) (k : ∀ d ∈ B, StepW ns ms d ∧ RepW d) : StepsOk ns ms (A ++ B) :=
  SOk.app h ⟨fun d hd => (k d hd).1, List.pairwise_of_forall_mem_list fun a ha b _ _ => (k a ha).2⟩ fun a _ b hb e => by rw [e]; exact (k b hb).2
theorem rep_names {ns ms : List Str} {w : Str} (hw : w ∈ (["bar", "forget", "idle"] : List Str)) : ∀ d ∈ ns.map (T2 w), StepW ns ms d ∧ RepW d := fun d hd => by
  obtain ⟨n, hn, rfl⟩ := List.mem_map.mp hd
  exact ⟨.inr (.inr ⟨n, hn, w, hw, rfl⟩), .inr ⟨n, w, hw, rfl⟩⟩
theorem ini_ok {ns ms : List Str} {b : Bool} (hm : ms.Nodup) : StepsOk ns ms (ini ns ms b) := by
  have h1 : StepsOk ns ms ([T1 "out"] ++ ms.map (T2 "mark")) := by
    refine SOk.app ⟨fun d hd => ?_, List.pairwise_singleton _ _⟩ ⟨fun d hd => ?_, List.pairwise_map.mpr (hm.imp fun h e => absurd (by injection e with e; injection e with _ e; injection e with e; injection e) h)⟩ fun a ha b hb e => ?_
    · rw [List.mem_singleton.mp hd]
      exact .inl ⟨"out", by decide, rfl⟩
    · obtain ⟨m, hm, rfl⟩ := List.mem_map.mp hd
      exact .inr (.inl ⟨m, hm, rfl⟩)
    · obtain ⟨m, hm, rfl⟩ := List.mem_map.mp hb
      rw [List.mem_singleton.mp ha] at e
      injection e with e
      injection e with _ e
      cases e
  have one : ∀ w ∈ (["wait", "empty"] : List Str), StepW ns ms (T1 w) ∧ RepW (T1 w) := fun w hw => by
    refine ⟨.inl ⟨w, ?_, rfl⟩, .inl ⟨w, hw, rfl⟩⟩
    simp only [List.mem_cons, List.not_mem_nil, or_false] at hw
    rcases hw with rfl | rfl <;> decide
  have h6 : StepsOk ns ms (((((([T1 "out"] ++ ms.map (T2 "mark")) ++ ns.map (T2 "bar")) ++ ns.map (T2 "forget")) ++ [T1 "wait"]) ++ ns.map (T2 "idle")) ++ (if b = true then [T1 "empty"] else [])) := by
    refine SOk.rep (SOk.rep (SOk.rep (SOk.rep (SOk.rep h1 (rep_names (by decide))) (rep_names (by decide))) fun d hd => ?_) (rep_names (by decide))) fun d hd => ?_
    · rw [List.mem_singleton.mp hd]
      exact one _ (by decide)
    · cases b with
      | true =>
        rw [if_pos rfl] at hd
        rw [List.mem_singleton.mp hd]
        exact one _ (by decide)
      | false => cases hd
  refine SOk.app h6 ⟨fun d hd => ?_, ?_⟩ fun a ha b hb e => ?_
  · rw [List.mem_cons, List.mem_singleton] at hd
    rcases hd with rfl | rfl
    · exact .inl ⟨"down", by decide, rfl⟩
    · exact .inl ⟨"let", by decide, rfl⟩
  · refine List.pairwise_pair.mpr fun e => ?_
    injection e with e
    injection e with e _
    injection e with e
    exact absurd e (by decide)
  · have hne : ∀ w ∈ (["down", "let"] : List Str), ∀ d ∈ ((((([T1 "out"] ++ ms.map (T2 "mark")) ++ ns.map (T2 "bar")) ++ ns.map (T2 "forget")) ++ [T1 "wait"]) ++ ns.map (T2 "idle")), d ≠ T1 w := by
      intro w hw d hd e
      subst e
      simp only [List.mem_append, List.mem_singleton, List.mem_map] at hd
      rcases hd with ((((h | ⟨_, _, h⟩) | ⟨_, _, h⟩) | ⟨_, _, h⟩) | h) | ⟨_, _, h⟩ <;> injection h with h <;> injection h with h h'
      · injection h with h
        subst h
        revert hw
        decide
      · cases h'
      · cases h'
      · cases h'
      · injection h with h
        subst h
        revert hw
        decide
      · cases h'
    subst e
    rcases List.mem_append.mp ha with ha | ha
    · rw [List.mem_cons, List.mem_singleton] at hb
      rcases hb with rfl | rfl
      · exact absurd rfl (hne "down" (by decide) _ ha)
      · exact absurd rfl (hne "let" (by decide) _ ha)
    · revert ha
      split
      · intro ha
        rw [List.mem_singleton.mp ha]
        exact .inl ⟨"empty", by decide, rfl⟩
      · intro ha
        cases ha
section
variable {K : PySem.W.Frag} {p : Addr} {R H : Hp}
theorem dpAll_at {vs : List V} {ds : List PyData} {i : Nat} {v : V} {d : PyData} (h : DpAll K R vs ds) (h1 : vs[i]? = some v) (h2 : ds[i]? = some d) : Dp K R v d := by
  obtain ⟨e, he, hd⟩ := dpAll_get h h1
  rw [h2] at he
  rw [Option.some.inj he]
  exact hd
theorem dpAll_mem {vs : List V} {ds : List PyData} {v : V} (h : DpAll K R vs ds) (h1 : v ∈ vs) : ∃ d, d ∈ ds ∧ Dp K R v d := by
  obtain ⟨i, hi⟩ := List.getElem?_of_mem h1
  obtain ⟨e, he, hd⟩ := dpAll_get h hi
  exact ⟨e, List.mem_of_getElem? he, hd⟩
theorem new1v {u : V} {ds : PyData} {l : Addr} (k : Rest p R H) (hu : Dp K R u ds) (hl : H l = none) : Go p R H (upd R l (.lst [u])) (upd H l (.lst [u])) ∧ LD K (upd R l (.lst [u])) (.ref l) [ds] :=
  ⟨Go.new k hl, l, _, rfl, upd_same, .cons (dp_same (Go.new (o := .lst [u]) k hl).same _ _ hu) .nil⟩
theorem cut_len1 {α : Type} (ds : List α) (b : Bool) : (cutG ds none (some (if b = true then 1 else 0))).length ≤ 1 := by
  have e : HT.sIx ds.length ds.length (some (if b = true then 1 else 0)) ≤ 1 := by
    cases b
    · show min 0 ds.length ≤ 1
      omega
    · show min 1 ds.length ≤ 1
      omega
  unfold cutG
  rw [List.length_take]
  omega
/-- the word that a step begins with -/
def headW : PyData → Str
  | .tuple (.str w :: _) => w
  | _ => ""
/-- a comprehension that keeps some of a list's data -/
theorem lc_goF {J : It} {n : Nat} {G : Hp → Prop} {Y : Nat → Hp → V → Hp → Prop} (wk : Walk J n G Y) {D : Addr} (hn : n ≤ 1000) (k : Rest p R H) (hD : H D = none) (hG : ∀ R1 H1, Go p R H R1 H1 → G H1)
    (ds : List PyData) (hdn : ds.length = n) (f : PyData → Bool) {g : TG} {tt : TT} {te : TE} {vs : List Nat} {σ : L2.St} {Qd : Hp → Prop}
    (hs : ∀ i x R1 H1 H1' d, ds[i]? = some d → Go p R H R1 H1 → Y i H1 x H1' → ∀ (C : V → Hp → Prop) (E : Hp → Prop), (∀ R2 H2 y, f d = true → Go p R1 H1 R2 H2 → Dp K R2 y d → C y H2) → (∀ R2 H2, f d = false → Go p R1 H1 R2 H2 → E H2) →
      g x (wipe σ vs) H1' fun σ2 H2 => wipe σ2 vs = wipe σ vs ∧ tt σ2 H2 fun b H3 => if b = true then te σ2 H3 C else E H3)
    (hd : ∀ R1 H1, Go p R H R1 H1 → LD K R1 (.ref D) (ds.filter f) → Qd H1) :
    ∃ W : Nat → Nat → Hp → Prop, (∃ m, W 0 m (upd H D (.lst []))) ∧ ∀ i m H, W i m H →
      (J.stop i H ∧ Qd H) ∨ (J.go i H ∧ ∃ Nx : Hp → Prop, (∀ H', Nx H' → ∃ m', m' < m ∧ W (i + 1) m' H') ∧ ∀ x H', J.yld i H x H' → g x (wipe σ vs) H' fun σ2 H2 => wipe σ2 vs = wipe σ vs ∧ tt σ2 H2 fun b H3 =>
        if b = true then te σ2 H3 fun y H4 => ∃ acc, H4 D = some (.lst acc) ∧ acc.length < sizeLine ∧ Nx (upd H4 D (.lst (acc ++ [y]))) else Nx H3) := by
  have hne := k.ne hD
  have hRD : R D = none := k.1.free hD
  refine lc_it wk (fun i H' => ∃ R1, Go p R H R1 H' ∧ R1 D = none ∧ ∃ ys : List V, H' D = some (.lst ys) ∧ DpAll K R1 ys ((ds.take i).filter f)) ?_ ?_ ?_ ?_
  · exact ⟨R, go_hid k hD, hRD, [], upd_same, .nil⟩
  · rintro i H' _ ⟨R1, g1, _⟩
    exact hG R1 H' g1
  · rintro i x H1 H1' hi ⟨R1, g1, hR1, ys, hy, hP⟩ hY
    have hlt : i < ds.length := by omega
    have hdi : ds[i]? = some ds[i] := List.getElem?_eq_getElem hlt
    have hl : ys.length ≤ 1000 := by
      have e1 := dpAll_len hP
      have e2 := List.length_filter_le f (ds.take i)
      rw [List.length_take] at e2
      omega
    refine hs i x R1 H1 H1' _ hdi g1 hY _ _ (fun R2 H2 y hf g2 hp => ⟨ys, g2.keep D hne _ hy, small1000 (by omega), R2, go_put (g1.trans g2) hD (g2.fresh D _ hy hR1) hne, g2.fresh D _ hy hR1, ys ++ [y], upd_same, ?_⟩) (fun R2 H2 hf g2 => ⟨R2, g1.trans g2, g2.fresh D _ hy hR1, ys, g2.keep D hne _ hy, ?_⟩)
    · rw [filt_snoc hdi, if_pos hf]
      exact dpAll_app (dpAll_same g2.same _ _ hP) (.cons hp .nil)
    · rw [filt_snoc hdi, hf, if_neg Bool.false_ne_true, List.append_nil]
      exact dpAll_same g2.same _ _ hP
  · rintro H1 ⟨R1, g1, hR1, ys, hy, hP⟩
    refine hd _ H1 (go_show g1 hD hR1 hne hy) ⟨D, ys, rfl, upd_same, ?_⟩
    rw [List.take_of_length_le (by omega)] at hP
    exact dpAll_same (same_upd hR1) _ _ hP
end
end GG

namespace K12
open PySem PySem.Spec PyProof.Rows L2 TL GG OO
def topS (i : Nat) : Stmt := PySem.Challenge.pw_pulledout_k12_runs_as_values.main.body.getD i (.Pass ⟨0, 0, 0, 0⟩)
abbrev s_is_name : Stmt := topS 2
abbrev s_is_integer : Stmt := topS 3
abbrev s_PullError : Stmt := topS 5
abbrev s_InvalidMove : Stmt := topS 6
abbrev s_InvalidNumber : Stmt := topS 7
abbrev s_is_move : Stmt := topS 10
abbrev s_Run : Stmt := topS 12
abbrev s_moves_of : Stmt := topS 13
abbrev s_l_numbers : Stmt := topS 15
abbrev s_l_pool : Stmt := topS 16
abbrev s_l_draw : Stmt := topS 17
abbrev s_l_pick : Stmt := topS 18
abbrev s_l_wrong : Stmt := topS 19
abbrev s_l_is_move : Stmt := topS 20
abbrev s_l_made : Stmt := topS 21
abbrev s_l_sum : Stmt := topS 22
abbrev s_l_basic : Stmt := topS 23
abbrev s_l_index_refused : Stmt := topS 24
abbrev s_l_both_right : Stmt := topS 25
abbrev s_law : Stmt := topS 26
abbrev sR_init : Stmt := inClass s_Run 0
abbrev sR_of : Stmt := inClass s_Run 1
abbrev sR_hands : Stmt := inClass s_Run 2
abbrev sR_listed : Stmt := inClass s_Run 3
abbrev sR_len : Stmt := inClass s_Run 4
abbrev sR_ix : Stmt := inClass s_Run 5
abbrev sR_iter : Stmt := inClass s_Run 6
abbrev sR_ins : Stmt := inClass s_Run 7
abbrev sR_add : Stmt := inClass s_Run 8
abbrev sR_radd : Stmt := inClass s_Run 9
abbrev sR_iadd : Stmt := inClass s_Run 10
abbrev sR_eq : Stmt := inClass s_Run 11
abbrev sIM_init : Stmt := inClass s_InvalidMove 0
abbrev sIN_init : Stmt := inClass s_InvalidNumber 0
/-- built-ins by their names -/
structure Blt (K : PySem.W.Frag) (mg : Str → Option Value) : Prop where
  m_max : mg "max" = none
  m_range : mg "range" = none
  m_len : mg "len" = none
  m_int : mg "int" = none
  m_bool : mg "bool" = none
  m_isinstance : mg "isinstance" = none
  m_str : mg "str" = none
  m_all : mg "all" = none
  m_tuple : mg "tuple" = none
  m_list : mg "list" = none
  m_enumerate : mg "enumerate" = none
  m_repr : mg "repr" = none
  m_dict : mg "dict" = none
  m_iter : mg "iter" = none
section
variable {P : Program} {w : World} {K : PySem.W.Frag} {mg : Str → Option Value} {base : Heap}
def spNum (K : PySem.W.Frag) : Sp := fun vs H Q _ => ∃ (c s : Int) (a : Addr) (zs : List Int), vs = [.int c, .int s, .ref a] ∧ SqL K H a (zs.map V.int) ∧ (0 ≤ s ∧ s ≤ 100000) ∧ zs.length ≤ 1000 ∧ (∀ z ∈ zs, 0 < z ∧ z < 1000000) ∧
  ∀ (H' : Hp) (p : Addr) (ns : List Int), Same H H' → H p = none → H' p = some (.lst (ns.map V.int)) → ns.length = zs.length → Below zs ns → Q (.ref p) H'
theorem small_mod (x : Int) : (x % 2147483629).natAbs < 2 ^ 64 := by
  have h1 := Int.emod_nonneg x (show (2147483629 : Int) ≠ 0 by decide)
  have h2 := Int.emod_lt_of_pos x (show (0 : Int) < 2147483629 by decide)
  omega
theorem scNum : FnScope ["_law_cell", "_law_salt", "_law_sizes", "_law_whole", "_law_left", "_law_result", "_law_k", "_law_one"] ["_law_cell", "_law_salt", "_law_sizes"] (defScope s_l_numbers) := ⟨rfl, rfl, rfl, by decide +kernel, rfl, by decide +kernel, by decide +kernel⟩
theorem ok_num {f : Addr} {fd : FuncData} (F : Fun K "_law_numbers" "_law_numbers" s_l_numbers f fd) (mm : mg "max" = none) (mr : mg "range" = none) (ml : mg "len" = none) : FnOk P w K mg base CX0 1 f fd ["_law_cell", "_law_salt", "_law_sizes"] (spNum K) := by
  refine F.ok scNum (fun vs H Q E h => ?_) (fun cdv A outer s H vs Q E hr h => ?_)
  · obtain ⟨c, s, a, zs, rfl, _⟩ := h
    rfl
  · obtain ⟨c, sa, a, zs, rfl, hS, ⟨hs0, hs1⟩, hlen, hz, q⟩ := h
    refine ⟨_, (pss_cons (ps_set (i := 3) scNum.nd rfl (.inl rfl) (pe_callB (call_max2 rfl) (by rfl) mm (by decide +kernel) (pa_cons (pv 0) (pa_cons (pe_op op_sub (pe_un un_neg pe_int) (pv 0)) pa_nil)))) 
        (pss_cons (ps_set (i := 4) scNum.nd rfl (.inl rfl) (pv 3)) 
        (pss_cons (ps_set (i := 5) scNum.nd rfl (.inl rfl) (pe_lst pa_nil)) 
        (pss_cons (ps_for PassesOwn.never rfl (pi_range1 rfl mr (pa_cons (pe_callB call_len_seq (by rfl) ml PySem.boot_len (pa_cons (pv 2) pa_nil)) pa_nil)) (pg_name (i := 6) scNum.nd rfl (.inl rfl)) 
          (pss_one (ps_if (PW.pt (pw_and (pt_cmpR op_ge (pv 3) (pe_op op_pow pe_int pe_int) (nomark _)) (pw_and1 (pt_cmpR op_gt (pv 4) pe_int (nomark _))))) 
            (pss_cons (ps_expr (pe_bm PySem.F.plainAttrs_list PySem.F.slot_list_append PySem.F.type_list_append mt_append (pv 5) (pa_cons (pe_op op_mod (pv 4) (pe_ix ix_list (pv 2) (pv 6) (fun _ _ => rfl))) pa_nil))) 
            (pss_one (ps_set (i := 4) scNum.nd rfl (.inl rfl) (pe_op op_fdivN (pv 4) (pe_ix ix_list (pv 2) (pv 6) (fun _ _ => rfl)))))) 
            (pss_cons (ps_set (i := 7) scNum.nd rfl (.inl rfl) (pe_op op_mod (pe_op op_pow (pe_op op_add (pe_op op_add (pe_op op_mod (pv 3) pe_int) (pe_op op_mul pe_int (pv 1))) pe_int) pe_int) pe_int)) 
            (pss_cons (ps_set (i := 7) scNum.nd rfl (.inl rfl) (pe_op op_mod (pe_op op_mul (pe_op op_add (pv 7) (pe_op op_mul pe_int (pe_op op_add (pv 6) pe_int))) (pe_op op_add (pv 6) pe_int)) pe_int)) 
            (pss_cons (ps_set (i := 7) scNum.nd rfl (.inl rfl) (pe_op op_mod (pe_op op_mul (pe_op op_mod (pe_op op_pow (pv 7) pe_int) pe_int) pe_int) pe_int)) 
            (pss_one (ps_expr (pe_bm PySem.F.plainAttrs_list PySem.F.slot_list_append PySem.F.type_list_append mt_append (pv 5) (pa_cons (pe_op op_mod (pe_op op_fdivN (pv 7) pe_int) (pe_ix ix_list (pv 2) (pv 6) (fun _ _ => rfl))) pa_nil)))))))))) 
        (pss_one (ps_ret (pv 5))))))), ?_⟩
    -- whole = max(cell, -1 - cell); left = whole; result = []
    refine ⟨_, rfl, _, rfl, _, rfl, _, _, rfl, rfl, _, _, rfl, _, rfl, ?_⟩
    generalize hwh : (if -1 - c > c then -1 - c else c) = wh
    refine ⟨Nat.zero_le _, fun p hp => ?_⟩
    have s0 : Same H (upd H p (.lst [])) := same_upd hp
    refine ⟨_, rfl, a, zs.map V.int, rfl, .inl (s0.seq hS), _, rfl, by rw [List.length_map]; omega, by rw [List.length_map]; omega, for_range (lo := 0) (fun i σ H' => ∃ (left : Int) (ns : List Int) (y6 y7 : Option V), σ = [some (.int c), some (.int sa), some (.ref a), some (.int wh), some (.int left), some (.ref p), y6, y7] ∧ Same H H' ∧ H' p = some (.lst (ns.map V.int)) ∧ ns.length = i ∧ Below zs ns)
      ⟨wh, [], none, none, rfl, s0, upd_same, rfl, fun i z n _ h => by simp at h⟩ ?_ ?_⟩
    · rintro i σ H' hi ⟨left, ns, y6, y7, rfl, s1, hp1, hn, hb⟩
      have hi2 : i < zs.length := by
        rw [List.length_map] at hi
        omega
      have hzi : zs[i]? = some zs[i] := List.getElem?_eq_getElem hi2
      obtain ⟨hz0, hz1⟩ := hz zs[i] (List.getElem_mem hi2)
      have hat : atI (zs.map V.int) (0 + (i : Int)) = some (.int zs[i]) := by
        rw [Int.zero_add]
        exact atI_nat (by rw [List.getElem?_map, hzi]; rfl)
      have fin : ∀ (r : Int), 0 ≤ r → r < zs[i] → ns.length < sizeLine ∧ Same H (upd H' p (.lst (ns.map V.int ++ [V.int r]))) ∧ (upd H' p (.lst (ns.map V.int ++ [V.int r]))) p = some (.lst ((ns ++ [r]).map V.int)) ∧ (ns ++ [r]).length = i + 1 ∧ Below zs (ns ++ [r]) := fun r h0 h1 =>
        ⟨small1000 (by omega), same_st s1 hp, by rw [upd_same, List.map_append]; rfl, by rw [List.length_append, List.length_singleton, hn], below_snoc hb (by rw [hn]; exact hzi) h0 h1⟩
      refine ⟨_, rfl, _, _, rfl, rfl, ⟨by decide, by decide, by decide⟩, _, _, rfl, rfl, _, rfl, ite2 (fun _ => ⟨_, rfl, _, _, rfl, rfl, _, rfl, ite2 (fun _ => ?thn) (fun _ => ?els1)⟩) (fun _ => iteF ?els2)⟩
      case thn =>
        obtain ⟨f1, f2, f3, f4, f5⟩ := fin (left % zs[i]) (Int.emod_nonneg _ (by omega)) (Int.emod_lt_of_pos _ hz0)
        refine ⟨_, rfl, .inl ⟨rfl, _, .inl (.inl hp1)⟩, _, rfl, _, rfl, _, rfl, a, zs.map V.int, _, _, rfl, rfl, s1.seq hS, hat, _, _, rfl, rfl, hz0, p, _, _, rfl, rfl, hp1, (by rw [List.length_map]; exact f1), ?_⟩
        refine ⟨_, rfl, _, rfl, _, rfl, a, zs.map V.int, _, _, rfl, rfl, f2.seq hS, hat, _, _, rfl, rfl, ⟨by omega, by omega⟩, ?_⟩
        exact ⟨_, _, _, _, rfl, f2, f3, f4, f5⟩
      all_goals
        refine ⟨_, rfl, _, _, rfl, rfl, by show (0 : Int) < 2147483629; decide, _, rfl, _, _, rfl, rfl, .inl ⟨by decide, by decide⟩, _, _, rfl, rfl, _, _, rfl, rfl, _, _, rfl, rfl, ⟨by decide, by decide, ?b1⟩, _, _, rfl, rfl, by show (0 : Int) < 2147483647; decide, ?_⟩
        case b1 =>
          have h1 := Int.emod_nonneg wh (show (2147483629 : Int) ≠ 0 by decide)
          have h2 := Int.emod_lt_of_pos wh (show (0 : Int) < 2147483629 by decide)
          show (wh % 2147483629 + 7919 * sa + 1).natAbs < 2 ^ 64
          omega
        refine ⟨_, rfl, _, rfl, _, _, rfl, rfl, _, _, rfl, rfl, .inl ⟨by decide, by decide⟩, _, _, rfl, rfl, _, rfl, _, _, rfl, rfl, _, _, rfl, rfl, .inr ⟨?b2, ?b3⟩, _, _, rfl, rfl, by show (0 : Int) < 2147483629; decide, ?_⟩
        case b2 =>
          show -(2 ^ 64) < (0 + (i : Int)) + 3
          omega
        case b3 =>
          show (0 + (i : Int)) + 3 < 2 ^ 64
          omega
        refine ⟨_, rfl, _, _, rfl, rfl, ⟨by decide, by decide, small_mod _⟩, _, _, rfl, rfl, by show (0 : Int) < 2147483647; decide, _, _, rfl, rfl, .inr ⟨by decide, by decide⟩, _, _, rfl, rfl, by show (0 : Int) < 2147483629; decide, ?_⟩
        have fe := fun r : Int => fin (r % zs[i]) (Int.emod_nonneg _ (by omega)) (Int.emod_lt_of_pos _ hz0)
        refine ⟨_, rfl, .inl ⟨rfl, _, .inl (.inl hp1)⟩, _, rfl, _, _, rfl, rfl, ⟨by decide, by decide⟩, _, rfl, _, rfl, a, zs.map V.int, _, _, rfl, rfl, s1.seq hS, hat, _, _, rfl, rfl, hz0, p, _, _, rfl, rfl, hp1, (by rw [List.length_map]; exact (fe 0).1), ?_⟩
        exact ⟨_, _, _, _, rfl, (fe _).2.1, (fe _).2.2.1, (fe _).2.2.2.1, (fe _).2.2.2.2⟩
    · rintro σ H' ⟨left, ns, y6, y7, rfl, s1, hp1, hn, hb⟩
      exact ⟨_, rfl, q H' p ns s1 hp hp1 (by rw [hn, List.length_map]; omega) hb⟩
def spPool (K : PySem.W.Frag) : Sp := fun vs H Q _ => ∃ (c sa m : Int), vs = [.int c, .int sa, .int m] ∧ (0 ≤ sa ∧ sa ≤ 100000) ∧ (0 ≤ m ∧ m ≤ 1000) ∧ ∀ R H' p, Same H R → Rest p R H' → Same H H' → Q (.ref p) H'
def spDraw (K : PySem.W.Frag) : Sp := fun vs H Q _ => ∃ (p : Addr) (m : Int) (R : Hp), vs = [.ref p, .int m] ∧ 0 < m ∧ Rest p R H ∧ ∀ r H', 0 ≤ r → r < m → Go p R H R H' → Q (.int r) H'
def spPick (K : PySem.W.Frag) : Sp := fun vs H Q _ => ∃ (p a : Addr) (R : Hp) (xs : List V), vs = [.ref p, .ref a] ∧ SqL K R a xs ∧ 0 < xs.length ∧ Rest p R H ∧ ∀ x H', x ∈ xs → Go p R H R H' → Q x H'
theorem sc_l_pool : FnScope ["_law_cell", "_law_salt", "_law_many"] ["_law_cell", "_law_salt", "_law_many"] (defScope s_l_pool) := ⟨rfl, rfl, rfl, by decide +kernel, rfl, by decide +kernel, by decide +kernel⟩
theorem ok_l_pool {f : Addr} {fd : FuncData} (F : Fun K "_law_pool" "_law_pool" s_l_pool f fd) (T : Blt K mg) {f1 : Addr} {fd1 : FuncData} (F_l_numbers : Fun K "_law_numbers" "_law_numbers" s_l_numbers f1 fd1) (b_l_numbers : Binds K fd1 ["_law_cell", "_law_salt", "_law_sizes"] []) (g_l_numbers : mg "_law_numbers" = some (.ref f1)) (G_l_numbers : FnOk P w K mg base CX0 1 f1 fd1 ["_law_cell", "_law_salt", "_law_sizes"] (spNum K)) : FnOk P w K mg base CX0 2 f fd ["_law_cell", "_law_salt", "_law_many"] (spPool K) := by
  refine F.ok sc_l_pool (fun vs H Q E h => ?_) (fun cdv A outer s H vs Q E hr h => ?_)
  · obtain ⟨c, sa, m, rfl, _⟩ := h
    rfl
  · obtain ⟨c, sa, m, rfl, hsa, ⟨hm0, hm1⟩, q⟩ := h
    refine ⟨_, (pss_one (ps_ret (pe_lst (pa_cons (pe_call G_l_numbers hr (by rfl) g_l_numbers F_l_numbers.kp b_l_numbers .nil pass0 (pa_cons (pv 0) (pa_cons (pv 1) (pa_cons (pe_op op_rep (pe_lst (pa_cons pe_int pa_nil)) (pv 2)) pa_nil)))) (pa_cons pe_int pa_nil))))), ?_⟩
    have em : (m.toNat : Int) = m := by omega
    refine ⟨_, rfl, _, rfl, (by show 1 ≤ sizeLine; decide), fun l hl => ⟨_, rfl, l, m, [V.int 420], rfl, rfl, upd_same, by omega, by omega, ?z1, fun r hr => ?_⟩⟩
    case z1 =>
      show 1 * m.toNat ≤ sizeLine
      exact Nat.le_of_lt (small1000 (by omega))
    have el : (List.replicate m.toNat [V.int 420]).flatten = (List.replicate m.toNat (420 : Int)).map V.int := by
      generalize m.toNat = j
      induction j with
      | zero => rfl
      | succ j ih =>
        rw [List.replicate_succ, List.replicate_succ, List.flatten_cons, ih]
        rfl
    have s1 : Same H (upd (upd H l (.lst [V.int 420])) r (.lst (List.replicate m.toNat [V.int 420]).flatten)) := (same_upd hl).trans (same_upd hr)
    refine ⟨c, sa, r, List.replicate m.toNat 420, rfl, .inl (.inl (by rw [upd_same, el])), hsa, by rw [List.length_replicate]; omega, (fun z hz => by rw [(List.mem_replicate.mp hz).2]; decide), fun H3 d ds s9 hdn ed hdl hb => ?_⟩
    refine ⟨(by show 2 ≤ sizeLine; decide), fun p hp => ?_⟩
    have s3 : Same H H3 := s1.trans s9
    have hHd : H d = none := s1.free hdn
    have hpd : d ≠ p := fun e => by
      rw [e, hp] at ed
      cases ed
    refine q (upd H d (.lst (ds.map V.int))) _ p (same_upd hHd) ⟨fun b x e => ?_, ?_, d, ds, 0, upd_same, upd_same, by decide⟩ (s3.trans (same_upd hp))
    · by_cases h : b = d
      · rw [h, upd_same] at e
        rw [h, upd_ne hpd, ed, e]
      · rw [upd_ne h] at e
        exact (s3.trans (same_upd hp)) b x e
    · rw [upd_ne hpd.symm]
      exact s3.free hp
theorem sc_l_draw : FnScope ["_law_pool_here", "_law_many", "_law_at"] ["_law_pool_here", "_law_many"] (defScope s_l_draw) := ⟨rfl, rfl, rfl, by decide +kernel, rfl, by decide +kernel, by decide +kernel⟩
theorem ok_l_draw {f : Addr} {fd : FuncData} (F : Fun K "_law_draw" "_law_draw" s_l_draw f fd) (T : Blt K mg) : FnOk P w K mg base CX0 1 f fd ["_law_pool_here", "_law_many"] (spDraw K) := by
  refine F.ok sc_l_draw (fun vs H Q E h => ?_) (fun cdv A outer s H vs Q E hr h => ?_)
  · obtain ⟨p, m, R, rfl, _⟩ := h
    rfl
  · obtain ⟨p, m, R, rfl, hm, k, q⟩ := h
    refine ⟨_, (pss_cons (ps_set (i := 2) sc_l_draw.nd rfl (.inl rfl) (pe_ix ix_list (pv 0) pe_int (fun _ _ => rfl))) 
        (pss_cons (ps_asg (pe_op op_add (pv 2) pe_int) (pg_sub (pv 0) pe_int set_list)) 
        (pss_one (ps_ret (pe_ifExp (pt_cmpR op_lt (pv 2) (pe_callB call_len_seq (by rfl) T.m_len PySem.boot_len (pa_cons (pe_ix ix_list (pv 0) pe_int (fun _ _ => rfl)) pa_nil)) (nomark _)) (pe_op op_mod (pe_callTy call_int1 (by rfl) T.m_int (by decide +kernel) (pa_cons (pe_ix ix_seq (pe_ix ix_list (pv 0) pe_int (fun _ _ => rfl)) (pv 2) (fun _ _ => rfl)) pa_nil)) (pv 1)) pe_int))))), ?_⟩
    obtain ⟨s0, hRp, d, ns, n, hp, hd, hn⟩ := id k
    have hdp : d ≠ p := fun e => by
      rw [e, hRp] at hd
      cases hd
    have g : Go p R H R (upd H p (.lst [.ref d, .int (n + 1)])) := ⟨Same.refl _, ⟨same_st s0 hRp, hRp, d, ns, n + 1, upd_same, hd, by omega⟩, fun b hb o e => by rw [upd_ne hb]; exact e, fun _ _ _ h => h⟩
    have hd' : SqL K (upd H p (.lst [.ref d, .int (n + 1)])) d (ns.map V.int) := .inl (.inl (g.rest.1 _ _ hd))
    refine ⟨_, rfl, p, _, _, _, rfl, rfl, .inl (.inl hp), rfl, ?_⟩
    refine ⟨_, rfl, _, _, rfl, rfl, _, rfl, p, _, _, 1, rfl, rfl, hp, rfl, ?_⟩
    refine ⟨_, rfl, _, rfl, p, _, _, _, rfl, rfl, .inl (.inl upd_same), rfl, d, _, rfl, .inl hd', _, _, rfl, rfl, _, rfl, ite2 (fun h1 => ?_) (fun h1 => ?_)⟩
    · have h1 : n < ((ns.map V.int).length : Int) := of_decide_eq_true h1
      rw [List.length_map] at h1
      have hi : n.toNat < ns.length := by omega
      obtain ⟨v, hat, hv⟩ := at_int (xs := ns.map V.int) hn (by rw [List.length_map]; exact hi)
      obtain ⟨u, _, rfl⟩ := List.mem_map.mp hv
      refine ⟨_, rfl, p, _, _, _, rfl, rfl, .inl (.inl upd_same), rfl, _, rfl, .inl ⟨d, _, _, _, rfl, rfl, hd', hat, .inl ⟨_, rfl, _, rfl, _, _, rfl, rfl, hm, ?_⟩⟩⟩
      exact q _ _ (Int.emod_nonneg _ (by omega)) (Int.emod_lt_of_pos _ hm) g
    · exact q 0 _ (by decide) hm g
theorem sc_l_pick : FnScope ["_law_pool_here", "_law_some"] ["_law_pool_here", "_law_some"] (defScope s_l_pick) := ⟨rfl, rfl, rfl, by decide +kernel, rfl, by decide +kernel, by decide +kernel⟩
theorem ok_l_pick {f : Addr} {fd : FuncData} (F : Fun K "_law_pick" "_law_pick" s_l_pick f fd) (T : Blt K mg) {f1 : Addr} {fd1 : FuncData} (F_l_draw : Fun K "_law_draw" "_law_draw" s_l_draw f1 fd1) (b_l_draw : Binds K fd1 ["_law_pool_here", "_law_many"] []) (g_l_draw : mg "_law_draw" = some (.ref f1)) (G_l_draw : FnOk P w K mg base CX0 1 f1 fd1 ["_law_pool_here", "_law_many"] (spDraw K)) : FnOk P w K mg base CX0 2 f fd ["_law_pool_here", "_law_some"] (spPick K) := by
  refine F.ok sc_l_pick (fun vs H Q E h => ?_) (fun cdv A outer s H vs Q E hr h => ?_)
  · obtain ⟨p, a, R, xs, rfl, _⟩ := h
    rfl
  · obtain ⟨p, a, R, xs, rfl, hxs, hpos, k, q⟩ := h
    refine ⟨_, (pss_one (ps_ret (pe_ix ix_list (pv 1) (pe_call G_l_draw hr (by rfl) g_l_draw F_l_draw.kp b_l_draw .nil pass0 (pa_cons (pv 0) (pa_cons (pe_callB call_len_seq (by rfl) T.m_len PySem.boot_len (pa_cons (pv 1) pa_nil)) pa_nil))) (fun _ _ => rfl)))), ?_⟩
    refine ⟨_, rfl, _, rfl, _, rfl, a, xs, rfl, .inl (Same.seq k.1 hxs), p, _, R, rfl, by omega, k, fun r H' h0 h1 g => ?_⟩
    have hi : r.toNat < xs.length := by omega
    obtain ⟨v, hat, hv⟩ := at_int h0 hi
    exact ⟨a, xs, r, v, rfl, rfl, Same.seq g.rest.1 hxs, hat, q _ H' hv g⟩
end
def isName (z : Str) : Bool := decide (1 ≤ (z.length : Int)) && decide ((z.length : Int) ≤ 8) && z.cps.toList.all letB
def isNameP : PyData → Bool
  | .str z => isName z
  | _ => false
def isWordP (ws : List Str) : PyData → Bool
  | .str z => ws.any (· == z)
  | _ => false
def spChk (K : PySem.W.Frag) (g : PyData → Bool) : Sp := fun vs H Q _ => ∃ (x : V) (d : PyData), vs = [x] ∧ Val K H x d ∧ ∀ H', Same H H' → Q (.bl (g d)) H'
/-- what the module's names hold -/
structure Txt (K : PySem.W.Frag) (mg : Str → Option Value) (lt0 lt1 : Tok) : Prop extends Blt K mg where
  c_LONGEST_NAME : mg "_LONGEST_NAME" = some (.int 8 lt0)
  c_HIGHEST_PLACE : mg "_HIGHEST_PLACE" = some (.int 13 lt1)
section
variable {P : Program} {w : World} {K : PySem.W.Frag} {mg : Str → Option Value} {base : Heap} {lt0 lt1 : Tok} {C S fS N fN : Addr}
theorem snoc_let {z : Str} {i c : Nat} (hc : z.cps[i]? = some c) : ((z.cps.toList.take (i + 1)).map letB).map V.bl = ((z.cps.toList.take i).map letB).map V.bl ++ [V.bl (letB c)] := by
  have h : z.cps.toList[i]? = some c := by rw [Array.getElem?_toList]; exact hc
  rw [List.take_add_one, h, List.map_append, List.map_append]
  rfl
theorem sc_is_name : FnScope ["value", "letter"] ["value"] (defScope s_is_name) := ⟨rfl, rfl, rfl, by decide +kernel, rfl, by decide +kernel, by decide +kernel⟩
theorem ok_is_name {f : Addr} {fd : FuncData} (F : Fun K "is_name" "is_name" s_is_name f fd) (T : Txt K mg lt0 lt1) : FnOk P w K mg base CX0 1 f fd ["value"] (spChk K isNameP) := by
  refine F.ok sc_is_name (fun vs H Q E h => ?_) (fun cdv A outer s H vs Q E hr h => ?_)
  · obtain ⟨x, d, rfl, _⟩ := h
    rfl
  · obtain ⟨x, d, rfl, hv, q⟩ := h
    refine ⟨_, (pss_cons (ps_if (PW.pt (pw_or (pt_not (pt_val (pe_callB call_isi (by rfl) T.m_isinstance (by decide +kernel) (pa_cons (pv 0) (pa_cons (pe_bltn (v := .ty "str") (u := .type "str") (by rfl) T.m_str (by decide +kernel) rfl) pa_nil))))) (pw_or1 (pt_not (pt_chain op_le op_le pe_int (pe_callB call_len_str (by rfl) T.m_len PySem.boot_len (pa_cons (pv 0) pa_nil)) (pe_glob (v := .int 8) rfl T.c_LONGEST_NAME ⟨_, rfl⟩)))))) 
          (pss_one (ps_ret pe_bl)) pss_nil) 
        (pss_one (ps_ret (pe_callB (cr_all rfl) (by rfl) T.m_all (by decide +kernel) (pa_cons (pe_lc (own := [("letter", 1)]) (g := gName 1) rfl sc_is_name.nd (pi_str (pv 0)) (blkOk_by (N := ["value", "letter"]) (sc := defScope s_is_name) (by decide +kernel)) (fun _ _ _ _ _ => pg_name (i := 1) sc_is_name.nd rfl (.inl rfl)) (fun _ _ _ _ _ => pts_nil) (fun _ _ _ _ _ => (pe_chain op_le_str op_le_str pe_str (pv 1) pe_str))) pa_nil))))), ?_⟩
    cases hd : isStr d with
    | false =>
      have e : isNameP d = false := by cases d <;> first | rfl | cases hd
      have := q H (Same.refl H)
      rw [e] at this
      exact ⟨_, rfl, _, _, _, _, false, rfl, .ty "str", hv.ty, hd ▸ isi_str d, _, rfl, iteT (iteT this)⟩
    | true =>
      obtain ⟨z, rfl⟩ : ∃ z, d = .str z := by cases d <;> first | exact ⟨_, rfl⟩ | cases hd
      obtain ⟨rfl, hz, _⟩ := hv.str
      have q : ∀ H', Same H H' → Q (.bl (isName z)) H' := q
      refine ⟨_, rfl, _, _, _, _, true, rfl, .ty "str", .base (.str z), kit_ty (by decide +kernel), _, rfl, iteF ⟨_, rfl, z, rfl, Nat.le_of_lt (small1000 hz), _, _, rfl, rfl, _, rfl, ite2 (fun h1 => ⟨_, _, rfl, rfl, _, rfl, ite2 (fun h2 => ?f2) (fun h2 => ?go)⟩) (fun h1 => ⟨_, rfl, iteT ?f1⟩)⟩⟩
      case f1 =>
        have e : isName z = false := by
          unfold isName
          simp only [Bool.not_eq_true] at h1
          rw [h1]
          rfl
        have := q H (Same.refl H)
        rw [e] at this
        exact this
      case f2 =>
        have h2' : decide ((z.length : Int) ≤ 8) = false := by simpa using h2
        have e : isName z = false := by
          unfold isName
          rw [h2', Bool.and_false]
          rfl
        have := q H (Same.refl H)
        rw [e] at this
        exact this
      case go =>
        have h2' : decide ((z.length : Int) ≤ 8) = true := by simpa using h2
        refine ⟨_, rfl, z, rfl, fun D hD => lc_it walk_str (fun i H' => Same H H' ∧ H' D = some (.lst (((z.cps.toList.take i).map letB).map V.bl))) ⟨same_upd hD, upd_same⟩ (fun _ _ _ _ => trivial) ?_ ?_⟩
        · rintro i x H1 H2 hi ⟨s1, h1⟩ ⟨rfl, c, hc, rfl⟩
          have hlt : (((z.cps.toList.take i).map letB).map V.bl).length < sizeLine := by
            rw [List.length_map, List.length_map, List.length_take]
            exact Nat.lt_of_le_of_lt (Nat.min_le_right _ _) (small1000 hz)
          have fin : ∀ r : Bool, r = letB c → ∃ acc, H2 D = some (.lst acc) ∧ acc.length < sizeLine ∧ Same H (upd H2 D (.lst (acc ++ [V.bl r]))) ∧ upd H2 D (.lst (acc ++ [V.bl r])) D = some (.lst (((z.cps.toList.take (i + 1)).map letB).map V.bl)) := fun r hr =>
            ⟨_, h1, hlt, same_st s1 hD, by rw [upd_same, snoc_let hc, hr]⟩
          refine ⟨rfl, yes_then ?_⟩
          refine ⟨_, rfl, _, _, rfl, rfl, _, rfl, ite2 (fun g1 => ⟨_, _, rfl, rfl, fin _ ?_⟩) (fun g1 => fin _ ?_)⟩
          · show (!decide ([122] < [c])) = letB c
            have g1' : (!decide ([c] < [97])) = true := g1
            unfold letB
            rw [g1', Bool.true_and]
          · have g1' : (!decide ([c] < [97])) = false := by
              cases e : (!decide ([c] < [97])) with
              | true => exact absurd e g1
              | false => rfl
            unfold letB
            rw [g1', Bool.false_and]
        · rintro H1 ⟨s1, h1⟩
          refine ⟨D, z.cps.toList.map letB, rfl, .inl (.inl (by rw [h1, List.take_of_length_le (Nat.le_of_eq (Array.length_toList ..))])), ?_⟩
          have e : (z.cps.toList.map letB).all id = isName z := by
            unfold isName
            have h1' : decide (1 ≤ (z.length : Int)) = true := by assumption
            rw [h1', h2', List.all_map]
            rfl
          rw [e]
          exact q H1 s1
theorem bf {b : Bool} (h : ¬ b = true) : b = false := by
  cases b with
  | true => exact absurd rfl h
  | false => rfl
def isInt (n lo hi : Int) : Bool := decide (lo ≤ n) && decide (n ≤ hi)
def spIsInt (K : PySem.W.Frag) : Sp := fun vs H Q _ => ∃ (x : V) (lo hi : Int), vs = [x, .int lo, .int hi] ∧ ((∃ n : Int, x = .int n ∧ Q (.bl (isInt n lo hi)) H) ∨
  (∃ T : String, TyX K H x (.type T) ∧ (kitB T "int" = some false ∨ (kitB T "int" = some true ∧ kitB T "bool" = some true)) ∧ Q (.bl false) H))
theorem sc_is_integer : FnScope ["value", "lowest", "highest"] ["value", "lowest", "highest"] (defScope s_is_integer) := ⟨rfl, rfl, rfl, by decide +kernel, rfl, by decide +kernel, by decide +kernel⟩
theorem ok_is_int {f : Addr} {fd : FuncData} (F : Fun K "is_integer" "is_integer" s_is_integer f fd) (T : Txt K mg lt0 lt1) : FnOk P w K mg base CX0 1 f fd ["value", "lowest", "highest"] (spIsInt K) := by
  refine F.ok sc_is_integer (fun vs H Q E h => ?_) (fun cdv A outer s H vs Q E hr h => ?_)
  · obtain ⟨x, lo, hi, rfl, _⟩ := h
    rfl
  · obtain ⟨x, lo, hi, rfl, h⟩ := h
    refine ⟨_, (pss_cons (ps_if (PW.pt (pw_or (pt_not (pt_val (pe_callB call_isi (by rfl) T.m_isinstance (by decide +kernel) (pa_cons (pv 0) (pa_cons (pe_bltn (v := .ty "int") (u := .type "int") (by rfl) T.m_int (by decide +kernel) rfl) pa_nil))))) (pw_or1 (pt_val (pe_callB call_isi (by rfl) T.m_isinstance (by decide +kernel) (pa_cons (pv 0) (pa_cons (pe_bltn (v := .ty "bool") (u := .type "bool") (by rfl) T.m_bool (by decide +kernel) rfl) pa_nil))))))) 
      (pss_one (ps_ret pe_bl)) pss_nil) 
    (pss_one (ps_ret (pe_chain op_le op_le (pv 1) (pv 0) (pv 2))))), ?_⟩
    rcases h with ⟨n, rfl, q⟩ | ⟨t, hx, ht, q⟩
    · refine ⟨_, rfl, _, _, _, _, true, rfl, .ty "int", .base (.int n), kit_ty (by decide +kernel), _, rfl, iteF ⟨_, rfl, _, _, _, _, false, rfl, .ty "bool", .base (.int n), kit_ty (by decide +kernel), _, rfl, iteF ?_⟩⟩
      refine ⟨_, rfl, _, rfl, _, _, rfl, rfl, _, rfl, ite2 (fun h1 => ⟨_, rfl, _, _, rfl, rfl, ?_⟩) (fun h1 => ?_)⟩
      · have e : isInt n lo hi = decide (n ≤ hi) := by
          have h1' : decide (lo ≤ n) = true := h1
          unfold isInt
          rw [h1', Bool.true_and]
        rw [e] at q
        exact q
      · have e : isInt n lo hi = false := by
          have h1' : decide (lo ≤ n) = false := by simpa using h1
          unfold isInt
          rw [h1', Bool.false_and]
        rw [e] at q
        exact q
    · rcases ht with ht | ⟨ht, hb⟩
      · exact ⟨_, rfl, _, _, _, _, false, rfl, .ty "int", hx, kit_ty ht, _, rfl, iteT (iteT q)⟩
      · exact ⟨_, rfl, _, _, _, _, true, rfl, .ty "int", hx, kit_ty ht, _, rfl, iteF ⟨_, rfl, _, _, _, _, true, rfl, .ty "bool", hx, kit_ty hb, _, rfl, iteT q⟩⟩
/-- an integer from lo to hi -/
def isIntP (lo hi : Int) : PyData → Bool
  | .int n => isInt n lo hi
  | _ => false
theorem int_val {lo hi : Int} {H : Hp} {x : V} {d : PyData} {Q : VK} (h : Val K H x d) (q : Q (.bl (isIntP lo hi d)) H) : (∃ n : Int, x = .int n ∧ Q (.bl (isInt n lo hi)) H) ∨ (∃ T : String, TyX K H x (.type T) ∧ (kitB T "int" = some false ∨ (kitB T "int" = some true ∧ kitB T "bool" = some true)) ∧ Q (.bl false) H) := by
  have ty := h.ty
  cases d with
  | int n =>
    rcases h with ⟨h, _⟩ | ⟨h, _⟩
    · cases h
      exact .inl ⟨n, rfl, q⟩
    · cases h
  | none => exact .inr ⟨_, ty, .inl (by decide +kernel), q⟩
  | bool b => exact .inr ⟨"bool", ty, .inr ⟨by decide +kernel, by decide +kernel⟩, q⟩
  | str z => exact .inr ⟨"str", ty, .inl (by decide +kernel), q⟩
  | list z => exact .inr ⟨"list", ty, .inl (by decide +kernel), q⟩
  | tuple z => exact .inr ⟨"tuple", ty, .inl (by decide +kernel), q⟩
  | dict z => exact .inr ⟨"dict", ty, .inl (by decide +kernel), q⟩
/-- a move by its form -/
def isMoveP : PyData → Bool
  | .tuple [.str z] => (["come", "step"] : List Str).any (· == z)
  | .tuple [.str z, x] => if z = "go" then isIntP 0 13 x else ((["begin", "run"] : List Str).any (· == z) && isNameP x)
  | _ => false
theorem mv_len {ds : List PyData} (h : ¬ (ds.length = 1 ∨ ds.length = 2)) : isMoveP (.tuple ds) = false := by
  match ds, h with
  | [], _ => rfl
  | [_], h => exact absurd (.inl rfl) h
  | [_, _], h => exact absurd (.inr rfl) h
  | a :: _ :: _ :: _, _ => cases a <;> rfl
theorem mv_str {d : PyData} {r : List PyData} (h : isStr d = false) : isMoveP (.tuple (d :: r)) = false := by
  match d, r, h with
  | .none, [], _ => rfl
  | .none, _ :: _, _ => rfl
  | .bool _, [], _ => rfl
  | .bool _, _ :: _, _ => rfl
  | .int _, [], _ => rfl
  | .int _, _ :: _, _ => rfl
  | .list _, [], _ => rfl
  | .list _, _ :: _, _ => rfl
  | .tuple _, [], _ => rfl
  | .tuple _, _ :: _, _ => rfl
  | .dict _, [], _ => rfl
  | .dict _, _ :: _, _ => rfl
theorem iteB {b c : Bool} {A B : Prop} (e : b = c) (h : if c = true then A else B) : if b = true then A else B := by
  rw [e]
  exact h
theorem room65x {k : Nat} {A : Around} (r : Room k A) : A.units + 65 < cLine := by
  have := r.un
  omega
theorem sc_is_move : FnScope ["value", "kind", "target"] ["value"] (defScope s_is_move) := ⟨rfl, rfl, rfl, by decide +kernel, rfl, by decide +kernel, by decide +kernel⟩
theorem ok_is_move {f : Addr} {fd : FuncData} (F : Fun K "is_move" "is_move" s_is_move f fd) (T : Txt K mg lt0 lt1) {f1 : Addr} {fd1 : FuncData} (F_is_name : Fun K "is_name" "is_name" s_is_name f1 fd1) (b_is_name : Binds K fd1 ["value"] []) (g_is_name : mg "is_name" = some (.ref f1)) (G_is_name : FnOk P w K mg base CX0 1 f1 fd1 ["value"] (spChk K isNameP)) {f2 : Addr} {fd2 : FuncData} (F_is_integer : Fun K "is_integer" "is_integer" s_is_integer f2 fd2) (b_is_integer : Binds K fd2 ["value", "lowest", "highest"] []) (g_is_integer : mg "is_integer" = some (.ref f2)) (G_is_integer : FnOk P w K mg base CX0 1 f2 fd2 ["value", "lowest", "highest"] (spIsInt K)) : FnOk P w K mg base CX0 2 f fd ["value"] (spChk K isMoveP) := by
  refine F.ok sc_is_move (fun vs H Q E h => ?_) (fun cdv A outer s H vs Q E hr h => ?_)
  · obtain ⟨x, d, rfl, _⟩ := h
    rfl
  · obtain ⟨x, d, rfl, hv, q⟩ := h
    refine ⟨_, (pss_cons (ps_if (PW.pt (pw_or (pt_not (pt_val (pe_callB call_isi (by rfl) T.m_isinstance (by decide +kernel) (pa_cons (pv 0) (pa_cons (pe_bltn (v := .ty "tuple") (u := .type "tuple") (by rfl) T.m_tuple (by decide +kernel) rfl) pa_nil))))) (pw_or (pt_cmpR op_notIn_seq (pe_callB call_len_seq (by rfl) T.m_len PySem.boot_len (pa_cons (pv 0) pa_nil)) (pe_tup (pa_cons pe_int (pa_cons pe_int pa_nil))) (by rfl)) (pw_or1 (pt_not (pt_val (pe_callB call_isi (by rfl) T.m_isinstance (by decide +kernel) (pa_cons (pe_ix ix_tup (pv 0) pe_int (fun _ _ => rfl)) (pa_cons (pe_bltn (v := .ty "str") (u := .type "str") (by rfl) T.m_str (by decide +kernel) rfl) pa_nil))))))))) (pss_one (ps_ret pe_bl)) pss_nil)
      (pss_cons (ps_if (pt_cmpR op_eq (pe_callB call_len_seq (by rfl) T.m_len PySem.boot_len (pa_cons (pv 0) pa_nil)) pe_int (nomark _)) (pss_one (ps_ret (pe_cmpR op_in_seq (pe_ix ix_tup (pv 0) pe_int (fun _ _ => rfl)) (pe_tup (pa_cons pe_str (pa_cons pe_str pa_nil))) (by rfl)))) pss_nil)
      (pss_cons (ps_asg (pv 0) (pg_tup rfl (pgs_cons (pg_name (i := 1) sc_is_move.nd rfl (.inl rfl)) (pgs_cons (pg_name (i := 2) sc_is_move.nd rfl (.inl rfl)) pgs_nil))))
      (pss_cons (ps_if (pt_cmpR op_eq (pv 1) pe_str (nomark _)) (pss_one (ps_ret (pe_call G_is_integer hr (by rfl) g_is_integer F_is_integer.kp b_is_integer .nil pass0 (pa_cons (pv 2) (pa_cons pe_int (pa_cons (pe_glob (v := .int 13) rfl T.c_HIGHEST_PLACE ⟨_, rfl⟩) pa_nil)))))) pss_nil)
      (pss_one (ps_ret (pe_and (pe_cmpR op_in_seq (pv 1) (pe_tup (pa_cons pe_str (pa_cons pe_str pa_nil))) (by rfl)) (pe_one (pe_call G_is_name hr (by rfl) g_is_name F_is_name.kp b_is_name .nil pass0 (pa_cons (pv 2) pa_nil)))))))))), ?_⟩
    refine ⟨_, rfl, _, _, _, _, _, rfl, .ty "tuple", hv.ty, isi_tup d, _, rfl, ?_⟩
    cases ht : isTup d with
    | false =>
      have e : isMoveP d = false := by cases d <;> first | rfl | cases ht
      have := q H (Same.refl H)
      rw [e] at this
      exact iteT this
    | true =>
      obtain ⟨ds, rfl⟩ : ∃ ds, d = .tuple ds := by cases d <;> first | exact ⟨_, rfl⟩ | cases ht
      obtain ⟨b, xs, rfl, hs, ha, hl, h1000, hget⟩ := hv.tup
      refine iteF ⟨_, rfl, b, xs, rfl, .inr hs, (by show 2 ≤ sizeLine; decide), fun t nt => ?_⟩
      have s1 := same_upd (o := .tup [V.int 1, .int 2]) nt
      have et : (upd H t (.tup [V.int 1, .int 2])) t = some (.tup [V.int 1, .int 2]) := upd_same
      generalize upd H t (.tup [V.int 1, .int 2]) = H1 at s1 et
      refine ⟨t, _, rfl, .inr (.inl (.inl et)), rfl, rfl, _, rfl, ?_⟩
      have ein : inV (.int (xs.length : Int)) [V.int 1, .int 2] = decide (ds.length = 1 ∨ ds.length = 2) := by
        have e1 : eqV (.int 1) (.int (xs.length : Int)) = decide (ds.length = 1) := by
          show decide ((1 : Int) = (xs.length : Int)) = _
          rw [hl]
          exact decide_eq_decide.mpr ⟨fun z => by omega, fun z => by omega⟩
        have e2 : eqV (.int 2) (.int (xs.length : Int)) = decide (ds.length = 2) := by
          show decide ((2 : Int) = (xs.length : Int)) = _
          rw [hl]
          exact decide_eq_decide.mpr ⟨fun z => by omega, fun z => by omega⟩
        unfold inV
        rw [List.any_cons, List.any_cons, e1, e2]
        simp
      by_cases hln : ds.length = 1 ∨ ds.length = 2
      · refine iteB (c := false) (by rw [ein, decide_eq_true hln]; rfl) (iteF ?_)
        obtain ⟨d0, r, rfl⟩ : ∃ d0 r, ds = d0 :: r := by
          match ds, hln with
          | [], h => simp at h
          | a :: b, _ => exact ⟨a, b, rfl⟩
        obtain ⟨v0, hx0, hv0⟩ := hget 0 d0 rfl
        have hv01 := hv0.same s1
        have hs1 := Same.seqT s1 hs
        refine ⟨_, rfl, b, xs, _, _, rfl, rfl, hs1, atI_nat hx0, _, _, _, _, _, rfl, .ty "str", hv01.ty, isi_str d0, _, rfl, ?_⟩
        cases hstr : isStr d0 with
        | false =>
          have := q H1 s1
          rw [mv_str hstr] at this
          exact iteT this
        | true =>
          obtain ⟨z, rfl⟩ : ∃ z, d0 = .str z := by cases d0 <;> first | exact ⟨_, rfl⟩ | cases hstr
          obtain ⟨rfl, hz, _⟩ := hv01.str
          refine iteF ⟨_, rfl, b, xs, rfl, .inr hs1, rfl, _, rfl, ite2 (fun h1 => ?_) (fun h1 => ?_)⟩
          · have h1 : (xs.length : Int) = 1 := V.int.inj (of_decide_eq_true h1)
            obtain rfl : r = [] := by
              rw [List.length_cons] at hl
              exact List.length_eq_zero_iff.mp (by omega)
            refine ⟨_, rfl, b, xs, _, _, rfl, rfl, hs1, atI_nat hx0, (by show 2 ≤ sizeLine; decide), fun t2 nt2 => ⟨t2, _, rfl, .inr (.inl (.inl upd_same)), rfl, flat_words ["come", "step"], ?_⟩⟩
            have := q _ (s1.trans (same_upd (o := .tup [V.str "come", .str "step"]) nt2))
            show Q (.bl (inV (.str z) ((["come", "step"] : List Str).map V.str))) _
            rw [inV_words]
            exact this
          · have hl2 : r.length = 1 := by
              rw [List.length_cons] at hl hln
              have : ¬ (xs.length : Int) = 1 := fun y => h1 (decide_eq_true (by rw [y]))
              omega
            obtain ⟨d1, rfl⟩ := List.length_eq_one_iff.mp hl2
            obtain ⟨v1, hx1, hv1⟩ := hget 1 d1 rfl
            have hv11 := hv1.same s1
            have exs : xs = [V.str z, v1] := by
              match xs, hl, hx0, hx1 with
              | [a, c], _, h0, h2 => rw [Option.some.inj h0, Option.some.inj h2]
            subst exs
            refine ⟨_, rfl, b, _, rfl, hs1, rfl, _, _, rfl, _, _, rfl, ?_⟩
            refine ⟨rfl, _, rfl, rfl, _, rfl, ite2 (fun h2 => ?_) (fun h2 => ?_)⟩
            · have h2 : z = "go" := V.str.inj (of_decide_eq_true h2)
              refine ⟨_, rfl, v1, 0, 13, rfl, int_val hv11 ?_⟩
              have := q H1 s1
              have e : isMoveP (.tuple [.str z, d1]) = isIntP 0 13 d1 := if_pos h2
              rw [e] at this
              exact this
            · have h2 : ¬ z = "go" := fun y => h2 (decide_eq_true (by rw [y]))
              have e : isMoveP (.tuple [.str z, d1]) = ((["begin", "run"] : List Str).any (· == z) && isNameP d1) := if_neg h2
              refine ⟨_, rfl, (by show 2 ≤ sizeLine; decide), fun t2 nt2 => ⟨t2, _, rfl, .inr (.inl (.inl upd_same)), rfl, flat_words ["begin", "run"], ?_⟩⟩
              have s2 := s1.trans (same_upd (o := .tup [V.str "begin", .str "run"]) nt2)
              have en : inV (.str z) [V.str "begin", .str "run"] = (["begin", "run"] : List Str).any (· == z) := inV_words (z := z) ["begin", "run"]
              refine ⟨_, rfl, iteB en (ite2 (fun h3 => ?_) (fun h3 => ?_))⟩
              · refine ⟨_, rfl, v1, d1, rfl, hv1.same s2, fun H' s' => ?_⟩
                have := q H' (s2.trans s')
                rw [e, h3, Bool.true_and] at this
                exact this
              · have := q _ s2
                rw [e, bf h3, Bool.false_and] at this
                exact this
      · refine iteB (c := true) (by rw [ein, decide_eq_false hln]; rfl) (iteT ?_)
        have := q H1 s1
        rw [mv_len hln] at this
        exact this
end
end K12

namespace K12
open PySem PySem.Spec PyProof.Rows StX L2 TL GG OO
theorem n_mv (p : Addr) : ([("_moves", .ref p)] : List (Str × V)).lookup ("_moves" : Str) = some (.ref p) := by simp [List.lookup]
def runF (p : Addr) : List (Str × V) := putF "_moves" (.ref p) []
theorem runF_p (p : Addr) : (runF p).lookup ("_moves" : Str) = some (.ref p) := by
  unfold runF
  rw [lookup_putF, if_pos rfl]
theorem runF_no (p : Addr) {m : Str} (h1 : ¬ m = "_moves") : (runF p).lookup m = none := by
  unfold runF
  rw [lookup_putF, if_neg h1]
  rfl
theorem keep_same {x : Addr} {H H' : Hp} (k : Keep x H H') {H0 : Hp} (s : Same H0 H) (n : H0 x = none) : Same H0 H' := fun b o e => k b (ne_of_none e n) o (s b o e)
/-- a run of such moves -/
def RunI (K : PySem.W.Frag) (C : Addr) (H : Hp) (r : Addr) (ds : List PyData) : Prop := ∃ dx p : Addr, H r = some (.ins C dx (runF p)) ∧ Val K H (.ref p) (.tuple ds)
theorem RunI.same {K : PySem.W.Frag} {C : Addr} {H H' : Hp} {r : Addr} {ds : List PyData} (h : RunI K C H r ds) (s : Same H H') : RunI K C H' r ds := by
  obtain ⟨dx, p, h1, h2⟩ := h
  exact ⟨dx, p, s _ _ h1, h2.same s⟩
structure ClT (K : PySem.W.Frag) (mg : Str → Option Value) (C : Addr) : Prop where
  mgC : mg "Run" = some (.ref C)
  cl : Cls K C
  nP : NoAttr K C "_moves"
structure TyC (K : PySem.W.Frag) (C : Addr) : Prop where
  ha : PySem.W.findIn K (.ref C) "__class__" = some (some (.builtin "object.__class__"))
  hn : PySem.W.specialIn K (.builtin "object.__class__") "__get__" = some (some (.builtin "getset_descriptor.__get__"))
  htk : PySem.W.takesIn K (.builtin "object.__class__") = some true
  hm : PySem.W.mroIn K C (.type "object") = some true
theorem RunI.ty {K : PySem.W.Frag} {C : Addr} {H : Hp} {r : Addr} {ds : List PyData} (h : RunI K C H r ds) (cl : Cls K C) (t : TyC K C) : TyX K H (.ref r) (.ref C) := by
  obtain ⟨dx, p, h1, _⟩ := h
  exact .base (.ins h1 cl t.ha t.hn t.htk t.hm)
theorem kit_self {K : PySem.W.Frag} {C : Addr} : PySem.W.kitOne K (.ref C) (.ref C) = some true := by
  unfold PySem.W.kitOne
  rw [if_pos (by simp)]
/-- no move stands ahead of the i-th one -/
def BadAt (ds : List PyData) (i : Nat) : Prop := (∃ d, ds[i]? = some d ∧ isMoveP d = false) ∧ ∀ j d, j < i → ds[j]? = some d → isMoveP d = true
def rowOf : PyData → Option (List PyData)
  | .tuple ds => some ds
  | .list ds => some ds
  | _ => none
def spRunI (K : PySem.W.Frag) (C S : Addr) : Sp := fun vs H Q E => ∃ (x p dx : Addr) (ob : Obj) (xs : List V) (ds : List PyData), vs = [.ref x, .ref p] ∧ H x = some (.ins C dx []) ∧ H p = some (.frz ob (.tup xs)) ∧ DpAll K H xs ds ∧ GG.Good 60 (.tuple ds) ∧
  ((∀ d ∈ ds, isMoveP d = true) → ∀ (H' : Hp) (dx : Addr), Keep x H H' → H' x = some (.ins C dx (runF p)) → Q .non H') ∧
  ∀ i v, BadAt ds i → xs[i]? = some v → ∀ (d : Addr) (H' : Hp), H d = none → Same H H' → H' d = some (.xd [("move", v)]) → E (.ref S) (some d) H'
section
variable {P : Program} {w : World} {K : PySem.W.Frag} {mg : Str → Option Value} {base : Heap} {lt0 lt1 : Tok} {C S fS N fN : Addr}
theorem sc_im_init : FnScope ["self", "move"] ["self", "move"] (defScope sIM_init) := ⟨rfl, rfl, rfl, by decide +kernel, rfl, by decide +kernel, by decide +kernel⟩
theorem ok_im_init {f : Addr} {fd : FuncData} (F : Fun K "__init__" "InvalidMove.__init__" sIM_init f fd) (T : ExT K mg "InvalidMove" "move" S fS) : FnOk P w K mg base CX0 1 f fd ["self", "move"] (spExI S "move") := by
  refine F.ok sc_im_init (fun vs H Q E h => ?_) (fun cdv A outer s H vs Q E hr h => ?_)
  · obtain ⟨a, v, rfl, _⟩ := h
    rfl
  · obtain ⟨a, v, rfl, ha, q⟩ := h
    refine ⟨_, pss_one (ps_ost (pv 0) (pv 1) rfl), ?_⟩
    exact ⟨_, rfl, _, rfl, a, S, rfl, T.o, T.no, .inl ⟨ha, fun dx h1 h2 => q dx h1 h2⟩⟩
theorem sc_in_init : FnScope ["self", "value"] ["self", "value"] (defScope sIN_init) := ⟨rfl, rfl, rfl, by decide +kernel, rfl, by decide +kernel, by decide +kernel⟩
theorem ok_in_init {f : Addr} {fd : FuncData} (F : Fun K "__init__" "InvalidNumber.__init__" sIN_init f fd) (T : ExT K mg "InvalidNumber" "value" N fN) : FnOk P w K mg base CX0 1 f fd ["self", "value"] (spExI N "value") := by
  refine F.ok sc_in_init (fun vs H Q E h => ?_) (fun cdv A outer s H vs Q E hr h => ?_)
  · obtain ⟨a, v, rfl, _⟩ := h
    rfl
  · obtain ⟨a, v, rfl, ha, q⟩ := h
    refine ⟨_, pss_one (ps_ost (pv 0) (pv 1) rfl), ?_⟩
    exact ⟨_, rfl, _, rfl, a, N, rfl, T.o, T.no, .inl ⟨ha, fun dx h1 h2 => q dx h1 h2⟩⟩
theorem sc_r_init : FnScope ["self", "moves", "move"] ["self", "moves"] (defScope sR_init) := ⟨rfl, rfl, rfl, by decide +kernel, rfl, by decide +kernel, by decide +kernel⟩
theorem ok_r_init {f : Addr} {fd : FuncData} (F : Fun K "__init__" "Run.__init__" sR_init f fd) (CT : ClT K mg C) (TS : ExT K mg "InvalidMove" "move" S fS) {f1 : Addr} {fd1 : FuncData} (F_is_move : Fun K "is_move" "is_move" s_is_move f1 fd1) (b_is_move : Binds K fd1 ["value"] []) (g_is_move : mg "is_move" = some (.ref f1)) (G_is_move : FnOk P w K mg base CX0 2 f1 fd1 ["value"] (spChk K isMoveP)) {fdS : FuncData} (bS : Binds K fdS ["self", "move"] []) (GS : FnOk P w K mg base CX0 1 fS fdS ["self", "move"] (spExI S "move")) : FnR P w K mg base (L2.CX P w) 4 f (spStar 1 (spRunI K C S)) := by
  refine Fun.star1 (p1 := "self") (pv := "moves") F sc_r_init StX.cxUp (fun _ _ _ _ _ _ _ => rfl) (fun _ _ _ _ _ _ _ _ _ => rfl) (fun cdv A outer s H vs Q E hr h => ?_)
  obtain ⟨x, p, dx, ob, xs, ds, rfl, hx, hp, ha, hg, q, qe⟩ := h
  have hl := dpAll_len ha
  have hgd := (GG.Good.tup (n := 59)).mp hg
  refine ⟨_, (pss_cons (ps_for (passes_of rfl) rfl (pi_tup (pv 1)) (pg_name (i := 2) sc_r_init.nd rfl (.inl rfl))
      (pss_one (ps_if (pt_not (pt_val (pe_call G_is_move (hr.mono (by decide)) (by rfl) g_is_move F_is_move.kp b_is_move .nil pass0 (pa_cons (pv 2) pa_nil)))) (pss_one (ps_raise rfl (takes_of rfl rfl rfl rfl) (pmk_oex TS.o TS.i TS.t GS (hr.mono (by decide)) bS .nil pass0 rfl TS.g (pa_cons (pv 2) pa_nil)))) pss_nil)))
    (pss_one (ps_fld (pv 0) (pv 1) rfl))), ?_⟩
  have hps : SqT K H p xs := .inl (.inr ⟨ob, hp⟩)
  refine ⟨_, rfl, p, rfl, ⟨_, hps⟩, for_it (walk_tup (xs := xs)) (fun i σ H' => Same H H' ∧ (∀ j d, j < i → ds[j]? = some d → isMoveP d = true) ∧ ∃ y : Option V, σ = [some (.ref x), some (.ref p), y]) ⟨Same.refl H, fun j _ hj => absurd hj (Nat.not_lt_zero j), _, rfl⟩ (fun i σ H' _ h => Same.seqT h.1 hps) ?_ ?_⟩
  · rintro i v σ _ H1 hi ⟨s1, hb, y, rfl⟩ ⟨rfl, hx1⟩
    have hid : i < ds.length := by omega
    have hdi : ds[i]? = some ds[i] := List.getElem?_eq_getElem hid
    have hv : Val K H v ds[i] := .inl ⟨dpAll_at ha hx1 hdi, (hgd.2 _ (List.mem_of_getElem? hdi)).mono (by decide)⟩
    refine ⟨_, rfl, v, ds[i], rfl, hv.same s1, fun H2 s2 => ⟨_, rfl, ?_⟩⟩
    cases hm : isMoveP ds[i] with
    | true => exact iteF ⟨s1.trans s2, fun j d hj hd => by
        by_cases hj2 : j < i
        · exact hb j d hj2 hd
        · have e : j = i := by omega
          subst e
          rw [hdi] at hd
          rw [← Option.some.inj hd]
          exact hm, _, rfl⟩
    | false => exact iteT ⟨_, rfl, mko fun a H' h1 h2 h3 => qe i v ⟨⟨_, hdi, hm⟩, hb⟩ hx1 a H' ((s1.trans s2).free h1) ((s1.trans s2).trans h2) h3⟩
  · rintro σ H1 ⟨s1, hb, y, rfl⟩
    refine ⟨_, rfl, _, rfl, x, C, dx, [], rfl, s1 _ _ hx, CT.cl, CT.nP, (by show 0 < 1000; decide), ?_⟩
    refine q (fun d hd => ?_) _ dx (fun b hb2 o e => by rw [upd_ne hb2]; exact s1 b o e) upd_same
    obtain ⟨j, hj⟩ := List.getElem?_of_mem hd
    exact hb j d (by rw [hl]; exact (List.getElem?_eq_some_iff.mp hj).1) hj
/-- Run( *xs): what its making asks -/
theorem made_run {H : Hp} {xs : List V} {ds : List PyData} {Q : Addr → Hp → Prop} {E : XK} (ha : DpAll K H xs ds) (hg : GG.Good 60 (.tuple ds)) (q : (∀ d ∈ ds, isMoveP d = true) → ∀ H' r, Same H H' → H r = none → RunI K C H' r ds → Q r H')
    (qe : ∀ i v, BadAt ds i → xs[i]? = some v → ∀ (d : Addr) (H' : Hp), H d = none → Same H H' → H' d = some (.xd [("move", v)]) → E (.ref S) (some d) H') : ∀ x dx, H x = none → H dx = none → dx ≠ x → spStar 1 (spRunI K C S) (.ref x :: xs) (upd (upd H dx (.own x)) x (.ins C dx [])) (fun v H2 => v = .non ∧ Q x H2) E := fun x dx hx hdx hne => by
  have hl := dpAll_len ha
  have h1000 := ((GG.Good.tup (n := 59)).mp hg).1
  refine ⟨[.ref x], xs, rfl, rfl, Nat.le_of_lt (small1000 (by omega)), fun p ob hp hcl hob => ?_⟩
  have s2 : Same H (upd (upd (upd H dx (.own x)) x (.ins C dx [])) p (.frz ob (.tup xs))) := ((same_upd hdx).trans (same_upd (by rw [upd_ne hne.symm]; exact hx))).trans (same_upd hp)
  have hxp : x ≠ p := ne_of_none upd_same hp
  have hv : Val K (upd (upd (upd H dx (.own x)) x (.ins C dx [])) p (.frz ob (.tup xs))) (.ref p) (.tuple ds) := .inl ⟨.tup (.inl (.inr ⟨ob, upd_same⟩)) (dpAll_same s2 _ _ ha), hg⟩
  have e0 : (upd (upd (upd H dx (.own x)) x (.ins C dx [])) p (.frz ob (.tup xs))) x = some (.ins C dx []) := by rw [upd_ne hxp]; exact upd_same
  exact ⟨x, p, dx, ob, xs, ds, rfl, e0, upd_same, dpAll_same s2 _ _ ha, hg, fun ok H' dx' k1 hx' => ⟨rfl, q ok H' x (keep_same k1 s2 hx) hx ⟨dx', p, hx', val_keep hv k1 e0⟩⟩, fun i v hb hi d H' h1 h2 h3 => qe i v hb hi d H' (s2.free h1) (s2.trans h2) h3⟩
def spOf (K : PySem.W.Frag) (C S : Addr) : Sp := fun vs H Q E => ∃ (a : Addr) (xs : List V) (ds : List PyData), vs = [.ref a] ∧ (SqT K H a xs ∨ SqL K H a xs) ∧ DpAll K H xs ds ∧ GG.Good 60 (.tuple ds) ∧ ((∀ d ∈ ds, isMoveP d = true) → ∀ H' r, Same H H' → H r = none → RunI K C H' r ds → Q (.ref r) H') ∧
  ∀ i v, BadAt ds i → xs[i]? = some v → ∀ (d : Addr) (H' : Hp), H d = none → Same H H' → H' d = some (.xd [("move", v)]) → E (.ref S) (some d) H'
theorem sc_r_of : FnScope ["moves"] ["moves"] (defScope sR_of) := ⟨rfl, rfl, rfl, by decide +kernel, rfl, by decide +kernel, by decide +kernel⟩
theorem ok_r_of {f : Addr} {fd : FuncData} (F : Fun K "of" "Run.of" sR_of f fd) (CT : ClT K mg C) {fI : Addr} (M : Mk K C fI) (GI : FnR P w K mg base (L2.CX P w) 4 fI (spStar 1 (spRunI K C S))) : FnOk P w K mg base (L2.CX P w) 6 f fd ["moves"] (spOf K C S) := by
  refine F.okX sc_r_of (fun vs H Q E h => ?_) (fun cdv A outer s H vs Q E hr h => ?_)
  · obtain ⟨a, xs, ds, rfl, _⟩ := h
    rfl
  · obtain ⟨a, xs, ds, rfl, hs, ha, hg, q, qe⟩ := h
    refine ⟨_, (pss_one (ps_ret (pe_makeSt (E := fun _ => E) M GI hr rfl CT.mgC (pat (passX (takes_of rfl rfl rfl rfl))) (pv 0)))), ?_⟩
    exact ⟨_, rfl, a, xs, rfl, hs, made_run (Q := fun r H' => Q (.ref r) H') ha hg q qe⟩
def comes (ds : List PyData) : Nat := ds.countP fun d => decide (headW d = "come")
theorem mv_head {K : PySem.W.Frag} {H : Hp} {v : V} {d : PyData} (hv : Val K H v d) (h : isMoveP d = true) : ∃ (a : Addr) (xs : List V), v = .ref a ∧ SqT K H a xs ∧ atI xs ((0 : Nat) : Int) = some (.str (headW d)) := by
  obtain ⟨z, r, rfl⟩ : ∃ z r, d = .tuple (.str z :: r) := by
    match d, h with
    | .tuple [.str z], _ => exact ⟨z, [], rfl⟩
    | .tuple [.str z, x], _ => exact ⟨z, [x], rfl⟩
  obtain ⟨a, xs, rfl, hs, _, _, _, hget⟩ := hv.tup
  obtain ⟨v0, h0, hv0⟩ := hget 0 _ rfl
  obtain ⟨rfl, _⟩ := hv0.str
  exact ⟨a, xs, rfl, hs, atI_nat h0⟩
def spHands (K : PySem.W.Frag) (C : Addr) : Sp := fun vs H Q _ => ∃ (r : Addr) (ds : List PyData), vs = [.ref r] ∧ RunI K C H r ds ∧ (∀ d ∈ ds, isMoveP d = true) ∧ ∀ H', Same H H' → Q (.int (comes ds : Nat)) H'
theorem sc_r_hands : FnScope ["self", "move"] ["self"] (defScope sR_hands) := ⟨rfl, rfl, rfl, by decide +kernel, rfl, by decide +kernel, by decide +kernel⟩
theorem ok_r_hands {f : Addr} {fd : FuncData} (F : Fun K "hands" "Run.hands" sR_hands f fd) (T : Txt K mg lt0 lt1) (CT : ClT K mg C) : FnOk P w K mg base CX0 1 f fd ["self"] (spHands K C) := by
  refine F.ok sc_r_hands (fun vs H Q E h => ?_) (fun cdv A outer s H vs Q E hr h => ?_)
  · obtain ⟨r, ds, rfl, _⟩ := h
    rfl
  · obtain ⟨r, ds, rfl, ⟨dx, p, h1, h2⟩, hm, q⟩ := h
    refine ⟨_, (pss_one (ps_ret (pe_callB call_len_seq (by rfl) T.m_len PySem.boot_len (pa_cons (pe_lc (own := [("move", 1)]) (g := gName 1) rfl sc_r_hands.nd (pi_tup (pe_fld (pv 0) rfl)) (blkOk_by (N := ["self", "move"]) (sc := defScope sR_hands) (by decide +kernel)) (fun _ _ _ _ _ => pg_name (i := 1) sc_r_hands.nd rfl (.inl rfl)) (fun _ _ _ _ _ => pts_one (pt_cmpR op_eq (pe_ix (r := rIxT K) ix_tup (pv 1) pe_int (fun _ _ => rfl)) pe_str (nomark _))) (fun _ _ _ _ _ => pv 1)) pa_nil)))), ?_⟩
    obtain ⟨b, xs, eb, hs, ha, hl, h1000, hget⟩ := h2.tup
    cases eb
    refine ⟨_, rfl, r, C, dx, _, _, rfl, h1, CT.cl, CT.nP, runF_p _, p, rfl, ⟨_, hs⟩, fun D hD => lc_it (walk_tup (xs := xs)) (fun i H' => Same H H' ∧ ∃ acc : List V, H' D = some (.lst acc) ∧ acc.length = comes (ds.take i)) ⟨same_upd hD, [], upd_same, rfl⟩ (fun i H' _ h => Same.seqT h.1 hs) ?_ ?_⟩
    · rintro i v _ H1 hi ⟨s1, acc, e1, e2⟩ ⟨rfl, hx⟩
      have hid : i < ds.length := by omega
      have hdi : ds[i]? = some ds[i] := List.getElem?_eq_getElem hid
      obtain ⟨v', hx', hv⟩ := hget i _ hdi
      cases hx.symm.trans hx'
      obtain ⟨a, zs, rfl, hq, hz⟩ := mv_head (hv.same s1) (hm _ (List.mem_of_getElem? hdi))
      have et : comes (ds.take (i + 1)) = comes (ds.take i) + (if headW ds[i] = "come" then 1 else 0) := by
        unfold comes
        rw [List.take_add_one, hdi, List.countP_append]
        by_cases hc : headW ds[i] = "come"
        · rw [if_pos hc]
          simp [hc]
        · rw [if_neg hc]
          simp [hc]
      have hle : comes (ds.take i) ≤ 1000 := Nat.le_trans List.countP_le_length (by rw [List.length_take]; omega)
      refine ⟨rfl, _, rfl, a, zs, _, _, rfl, rfl, hq, hz, rfl, _, rfl, ite2 (fun hc => ?_) (fun hc => ?_)⟩
      · have hc : headW ds[i] = "come" := V.str.inj (of_decide_eq_true hc)
        exact ⟨_, rfl, acc, e1, small1000 (by rw [e2]; exact hle), same_st s1 hD, _, upd_same, by rw [List.length_append, e2, et, if_pos hc]; rfl⟩
      · have hc : ¬ headW ds[i] = "come" := fun z => hc (decide_eq_true (by rw [z]))
        exact ⟨s1, acc, e1, by rw [e2, et, if_neg hc]; rfl⟩
    · rintro H1 ⟨s1, acc, e1, e2⟩
      rw [hl, List.take_length] at e2
      refine ⟨D, acc, rfl, .inl (.inl (.inl e1)), ?_⟩
      rw [e2]
      exact q H1 s1
def spListed (K : PySem.W.Frag) (C : Addr) : Sp := fun vs H Q _ => ∃ (r : Addr) (ds : List PyData), vs = [.ref r] ∧ RunI K C H r ds ∧ ∀ H' l xs, Same H H' → H l = none → H' l = some (.lst xs) → DpAll K H' xs ds → Q (.ref l) H'
theorem sc_r_listed : FnScope ["self"] ["self"] (defScope sR_listed) := ⟨rfl, rfl, rfl, by decide +kernel, rfl, by decide +kernel, by decide +kernel⟩
theorem ok_r_listed {f : Addr} {fd : FuncData} (F : Fun K "listed" "Run.listed" sR_listed f fd) (T : Txt K mg lt0 lt1) (CT : ClT K mg C) : FnOk P w K mg base CX0 1 f fd ["self"] (spListed K C) := by
  refine F.ok sc_r_listed (fun vs H Q E h => ?_) (fun cdv A outer s H vs Q E hr h => ?_)
  · obtain ⟨r, ds, rfl, _⟩ := h
    rfl
  · obtain ⟨r, ds, rfl, ⟨dx, p, h1, h2⟩, q⟩ := h
    refine ⟨_, (pss_one (ps_ret (pe_callTy call_list_of (by rfl) T.m_list (by decide +kernel) (pa_cons (pe_fld (pv 0) rfl) pa_nil)))), ?_⟩
    obtain ⟨b, xs, eb, hs, ha, hl, h1000, hget⟩ := h2.tup
    cases eb
    exact ⟨_, rfl, r, C, dx, _, _, rfl, h1, CT.cl, CT.nP, runF_p _, p, xs, rfl, .inr hs, fun l hl => q _ l xs (same_upd hl) hl upd_same (dpAll_same (same_upd hl) _ _ ha)⟩
def spLenR (K : PySem.W.Frag) (C : Addr) : Sp := fun vs H Q _ => ∃ (r : Addr) (ds : List PyData), vs = [.ref r] ∧ RunI K C H r ds ∧ Q (.int (ds.length : Nat)) H
theorem sc_r_len : FnScope ["self"] ["self"] (defScope sR_len) := ⟨rfl, rfl, rfl, by decide +kernel, rfl, by decide +kernel, by decide +kernel⟩
theorem ok_r_len {f : Addr} {fd : FuncData} (F : Fun K "__len__" "Run.__len__" sR_len f fd) (T : Txt K mg lt0 lt1) (CT : ClT K mg C) : FnOk P w K mg base CX0 1 f fd ["self"] (spLenR K C) := by
  refine F.ok sc_r_len (fun vs H Q E h => ?_) (fun cdv A outer s H vs Q E hr h => ?_)
  · obtain ⟨r, ds, rfl, _⟩ := h
    rfl
  · obtain ⟨r, ds, rfl, ⟨dx, p, h1, h2⟩, q⟩ := h
    refine ⟨_, pss_one (ps_ret (pe_callB call_len_seq (by rfl) T.m_len PySem.boot_len (pa_cons (pe_fld (pv 0) rfl) pa_nil))), ?_⟩
    obtain ⟨b, xs, eb, hs, ha, hl, h1000, hget⟩ := h2.tup
    cases eb
    refine ⟨_, rfl, r, C, dx, _, _, rfl, h1, CT.cl, CT.nP, runF_p _, p, xs, rfl, .inr hs, ?_⟩
    rw [hl]
    exact q
/-- no integer from 0 to hi -/
def NoIx (K : PySem.W.Frag) (H : Hp) (x : V) (hi : Int) : Prop := (∃ n : Int, x = .int n ∧ isInt n 0 hi = false) ∨ ∃ T : String, TyX K H x (.type T) ∧ (kitB T "int" = some false ∨ (kitB T "int" = some true ∧ kitB T "bool" = some true))
def spIxR (K : PySem.W.Frag) (C N : Addr) : Sp := fun vs H Q E => ∃ (r : Addr) (x : V) (ds : List PyData), vs = [.ref r, x] ∧ RunI K C H r ds ∧ ((∃ (n : Nat) (d : PyData), x = .int n ∧ ds[n]? = some d ∧ ∀ v, Val K H v d → Q v H) ∨
  (NoIx K H x ((ds.length : Int) - 1) ∧ ∀ (d : Addr) (H' : Hp), H d = none → Same H H' → H' d = some (.xd [("value", x)]) → E (.ref N) (some d) H'))
theorem sc_r_ix : FnScope ["self", "at"] ["self", "at"] (defScope sR_ix) := ⟨rfl, rfl, rfl, by decide +kernel, rfl, by decide +kernel, by decide +kernel⟩
theorem ok_r_ix {f : Addr} {fd : FuncData} (F : Fun K "__getitem__" "Run.__getitem__" sR_ix f fd) (T : Txt K mg lt0 lt1) (CT : ClT K mg C) (TN : ExT K mg "InvalidNumber" "value" N fN) {f1 : Addr} {fd1 : FuncData} (F_is_integer : Fun K "is_integer" "is_integer" s_is_integer f1 fd1) (b_is_integer : Binds K fd1 ["value", "lowest", "highest"] []) (g_is_integer : mg "is_integer" = some (.ref f1)) (G_is_integer : FnOk P w K mg base CX0 1 f1 fd1 ["value", "lowest", "highest"] (spIsInt K)) {fdN : FuncData} (bN : Binds K fdN ["self", "value"] []) (GN : FnOk P w K mg base CX0 1 fN fdN ["self", "value"] (spExI N "value")) : FnOk P w K mg base (L2.CX P w) 3 f fd ["self", "at"] (spIxR K C N) := by
  refine F.okX sc_r_ix (fun vs H Q E h => ?_) (fun cdv A outer s H vs Q E hr h => ?_)
  · obtain ⟨r, x, ds, rfl, _⟩ := h
    rfl
  · obtain ⟨r, x, ds, rfl, ⟨dx, p, h1, h2⟩, h⟩ := h
    refine ⟨_, (pss_cons (ps_if (pt_not (pt_val (pe_call G_is_integer (hr.mono (by decide)) (by rfl) g_is_integer F_is_integer.kp b_is_integer .nil pass0 (pa_cons (pv 1) (pa_cons pe_int (pa_cons (pe_op op_sub (pe_callB call_len_seq (by rfl) T.m_len PySem.boot_len (pa_cons (pe_fld (pv 0) rfl) pa_nil)) pe_int) pa_nil)))))) (pss_one (ps_raise rfl (takes_of rfl rfl rfl rfl) (pmk_oex TN.o TN.i TN.t GN (hr.mono (by decide)) bN .nil pass0 rfl TN.g (pa_cons (pv 1) pa_nil)))) pss_nil)
      (pss_one (ps_ret (pe_ix ix_tup (pe_fld (pv 0) rfl) (pv 1) (fun _ _ => rfl))))), ?_⟩
    obtain ⟨b, xs, eb, hs, ha, hl, h1000, hget⟩ := h2.tup
    cases eb
    refine ⟨_, rfl, _, rfl, r, C, dx, _, _, rfl, h1, CT.cl, CT.nP, runF_p _, p, xs, rfl, .inr hs, _, _, rfl, rfl, x, 0, (ds.length : Int) - 1, by rw [hl]; rfl, ?_⟩
    rcases h with ⟨n, d, rfl, hd, q⟩ | ⟨hno, q⟩
    · have hn := (List.getElem?_eq_some_iff.mp hd).1
      obtain ⟨v, hv1, hv2⟩ := hget n d hd
      refine .inl ⟨n, rfl, _, rfl, iteB (c := false) ?_ (iteF ⟨_, rfl, r, C, dx, _, _, rfl, h1, CT.cl, CT.nP, runF_p _, _, rfl, p, _, _, _, rfl, rfl, hs, atI_nat hv1, q v hv2⟩)⟩
      unfold isInt
      rw [decide_eq_true (by omega), decide_eq_true (by omega)]
      rfl
    · rcases hno with ⟨n, rfl, hn⟩ | ⟨T1, hT, hk⟩
      · exact .inl ⟨n, rfl, _, rfl, by rw [hn]; exact ⟨_, rfl, mko q⟩⟩
      · exact .inr ⟨T1, hT, hk, _, rfl, ⟨_, rfl, mko q⟩⟩
def spIterR (K : PySem.W.Frag) (C : Addr) : Sp := fun vs H Q _ => ∃ (r dx p : Addr) (ys : List V), vs = [.ref r] ∧ H r = some (.ins C dx (runF p)) ∧ SqT K H p ys ∧ ∀ it, H it = none → Q (.ref it) (upd H it (ItT p it 0))
theorem sc_r_iter : FnScope ["self"] ["self"] (defScope sR_iter) := ⟨rfl, rfl, rfl, by decide +kernel, rfl, by decide +kernel, by decide +kernel⟩
theorem ok_r_iter {f : Addr} {fd : FuncData} (F : Fun K "__iter__" "Run.__iter__" sR_iter f fd) (T : Txt K mg lt0 lt1) (CT : ClT K mg C) : FnOk P w K mg base CX0 1 f fd ["self"] (spIterR K C) := by
  refine F.ok sc_r_iter (fun vs H Q E h => ?_) (fun cdv A outer s H vs Q E hr h => ?_)
  · obtain ⟨r, dx, p, ys, rfl, _⟩ := h
    rfl
  · obtain ⟨r, dx, p, ys, rfl, h1, hs, q⟩ := h
    refine ⟨_, (pss_one (ps_ret (pe_callB call_iterT (by rfl) T.m_iter (by decide +kernel) (pa_cons (pe_fld (pv 0) rfl) pa_nil)))), ?_⟩
    exact ⟨_, rfl, r, C, dx, _, _, rfl, h1, CT.cl, CT.nP, runF_p _, p, ys, rfl, hs, q⟩
def inB (ds : List PyData) (d : PyData) : Bool := isMoveP d && ds.any fun z => PyData.eqv z d
theorem mv_tup {d : PyData} (h : isMoveP d = true) : ∃ es, d = .tuple es := by
  cases d <;> first | exact ⟨_, rfl⟩ | cases h
def spInR (K : PySem.W.Frag) (C : Addr) : Sp := fun vs H Q _ => ∃ (r : Addr) (x : V) (d : PyData) (ds : List PyData), vs = [.ref r, x] ∧ RunI K C H r ds ∧ Val K H x d ∧ ∀ H', Same H H' → Q (.bl (inB ds d)) H'
theorem sc_r_ins : FnScope ["self", "value"] ["self", "value"] (defScope sR_ins) := ⟨rfl, rfl, rfl, by decide +kernel, rfl, by decide +kernel, by decide +kernel⟩
theorem ok_r_ins {f : Addr} {fd : FuncData} (F : Fun K "__contains__" "Run.__contains__" sR_ins f fd) (CT : ClT K mg C) {f1 : Addr} {fd1 : FuncData} (F_is_move : Fun K "is_move" "is_move" s_is_move f1 fd1) (b_is_move : Binds K fd1 ["value"] []) (g_is_move : mg "is_move" = some (.ref f1)) (G_is_move : FnOk P w K mg base CX0 2 f1 fd1 ["value"] (spChk K isMoveP)) : FnOk P w K mg base CX0 3 f fd ["self", "value"] (spInR K C) := by
  refine F.ok sc_r_ins (fun vs H Q E h => ?_) (fun cdv A outer s H vs Q E hr h => ?_)
  · obtain ⟨r, x, d, ds, rfl, _⟩ := h
    rfl
  · obtain ⟨r, x, d, ds, rfl, ⟨dx, p, h1, h2⟩, hv, q⟩ := h
    refine ⟨_, pss_one (ps_ret (pe_and (pe_call G_is_move hr (by rfl) g_is_move F_is_move.kp b_is_move .nil pass0 (pa_cons (pv 1) pa_nil)) (pe_one (pe_cmpR (op_inT (room65x hr)) (pv 1) (pe_fld (pv 0) rfl) (by rfl))))), ?_⟩
    refine ⟨_, rfl, x, d, rfl, hv, fun H1 s1 => ⟨_, rfl, ite2 (fun g1 => ?_) (fun g1 => ?_)⟩⟩
    · obtain ⟨es, rfl⟩ := mv_tup g1
      refine ⟨_, rfl, _, rfl, r, C, dx, _, _, rfl, s1 _ _ h1, CT.cl, CT.nP, runF_p _, _, ds, (hv.same s1).dp.1, (h2.same s1).dp.1, hv.dp.2.lay (by decide), h2.dp.2.lay (by decide), ?_⟩
      have := q H1 s1
      unfold inB at this
      rw [g1, Bool.true_and] at this
      exact this
    · have := q H1 s1
      unfold inB at this
      rw [bf g1, Bool.false_and] at this
      exact this
def spEqR (K : PySem.W.Frag) (C : Addr) : Sp := fun vs H Q _ => ∃ (r : Addr) (y : V) (ds : List PyData), vs = [.ref r, y] ∧ RunI K C H r ds ∧ ((∃ (r2 : Addr) (es : List PyData), y = .ref r2 ∧ RunI K C H r2 es ∧ Q (.bl (PyData.eqv (.tuple ds) (.tuple es))) H) ∨ ∃ t, TyX K H y t ∧ PySem.W.kitOne K t (.ref C) = some false ∧ Q (.bl false) H)
theorem sc_r_eq : FnScope ["self", "other"] ["self", "other"] (defScope sR_eq) := ⟨rfl, rfl, rfl, by decide +kernel, rfl, by decide +kernel, by decide +kernel⟩
theorem ok_r_eq {f : Addr} {fd : FuncData} (F : Fun K "__eq__" "Run.__eq__" sR_eq f fd) (T : Txt K mg lt0 lt1) (CT : ClT K mg C) (TC : TyC K C) : FnOk P w K mg base CX0 1 f fd ["self", "other"] (spEqR K C) := by
  refine F.ok sc_r_eq (fun vs H Q E h => ?_) (fun cdv A outer s H vs Q E hr h => ?_)
  · obtain ⟨r, y, ds, rfl, _⟩ := h
    rfl
  · obtain ⟨r, y, ds, rfl, hrow, h⟩ := h
    obtain ⟨dx, p, h1, h2⟩ := id hrow
    refine ⟨_, pss_one (ps_ret (pe_and (pe_callB call_isi (by rfl) T.m_isinstance (by decide +kernel) (pa_cons (pv 1) (pa_cons (pe_glob (v := .ref C) rfl CT.mgC rfl) pa_nil))) (pe_one (pe_cmpR (op_eqD hr.units) (pe_fld (pv 0) rfl) (pe_fld (pv 1) rfl) (nomark _))))), ?_⟩
    rcases h with ⟨r2, es, rfl, hrow2, q⟩ | ⟨t, ht, hk, q⟩
    · obtain ⟨dx2, p2, k1, k2⟩ := id hrow2
      exact ⟨_, rfl, .ref r2, .ref C, _, _, true, rfl, .own C, hrow2.ty CT.cl TC, kit_self, _, rfl, iteT ⟨_, rfl, r, C, dx, _, _, rfl, h1, CT.cl, CT.nP, runF_p _, _, rfl, r2, C, dx2, _, _, rfl, k1, CT.cl, CT.nP, runF_p _, _, _, h2.dp.1, k2.dp.1, h2.dp.2.lay (by decide), k2.dp.2.lay (by decide), q⟩⟩
    · exact ⟨_, rfl, y, .ref C, t, _, false, rfl, .own C, ht, hk, _, rfl, iteF q⟩
end
end K12

namespace K12
open PySem PySem.Spec PyProof.Rows StX L2 TL GG OO
theorem any_tl {K : PySem.W.Frag} (d : PyData) : PySem.W.kitAny K (.type (tyName d)) [.type "tuple", .type "list"] = some (rowOf d).isSome := by
  have f : ∀ {a b : String} {r : Bool}, kitB a b = some r → PySem.W.kitOne K (.type a) (.type b) = some r := fun h => kit_ty h
  cases d
  · exact kitAny_cons (b := false) (f (a := "NoneType") (b := "tuple") (by decide +kernel)) (fun _ => kitAny_cons (b := false) (f (a := "NoneType") (b := "list") (by decide +kernel)) (fun _ => rfl) (fun z => nomatch z)) (fun z => nomatch z)
  · exact kitAny_cons (b := false) (f (a := "bool") (b := "tuple") (by decide +kernel)) (fun _ => kitAny_cons (b := false) (f (a := "bool") (b := "list") (by decide +kernel)) (fun _ => rfl) (fun z => nomatch z)) (fun z => nomatch z)
  · exact kitAny_cons (b := false) (f (a := "int") (b := "tuple") (by decide +kernel)) (fun _ => kitAny_cons (b := false) (f (a := "int") (b := "list") (by decide +kernel)) (fun _ => rfl) (fun z => nomatch z)) (fun z => nomatch z)
  · exact kitAny_cons (b := false) (f (a := "str") (b := "tuple") (by decide +kernel)) (fun _ => kitAny_cons (b := false) (f (a := "str") (b := "list") (by decide +kernel)) (fun _ => rfl) (fun z => nomatch z)) (fun z => nomatch z)
  · exact kitAny_cons (b := false) (f (a := "list") (b := "tuple") (by decide +kernel)) (fun _ => kitAny_cons (b := true) (f (a := "list") (b := "list") (by decide +kernel)) (fun z => nomatch z) (fun _ => rfl)) (fun z => nomatch z)
  · exact kitAny_cons (b := true) (f (a := "tuple") (b := "tuple") (by decide +kernel)) (fun z => nomatch z) (fun _ => rfl)
  · exact kitAny_cons (b := false) (f (a := "dict") (b := "tuple") (by decide +kernel)) (fun _ => kitAny_cons (b := false) (f (a := "dict") (b := "list") (by decide +kernel)) (fun _ => rfl) (fun z => nomatch z)) (fun z => nomatch z)
section
variable {K : PySem.W.Frag}
theorem val_items {H : Hp} {x : V} {d : PyData} {ds : List PyData} (h : Val K H x d) (e : rowOf d = some ds) : ∃ (a : Addr) (xs : List V), x = .ref a ∧ (SqT K H a xs ∨ SqL K H a xs) ∧ DpAll K H xs ds ∧ GG.Good 60 (.tuple ds) := by
  rcases h with ⟨h, g⟩ | ⟨rfl, _⟩
  · cases h with
    | lst hs ha =>
      cases e
      exact ⟨_, _, rfl, .inr hs, ha, g⟩
    | tup hs ha =>
      cases e
      exact ⟨_, _, rfl, .inl hs, ha, g⟩
    | _ => cases e
  · cases e
end
/-- built-in kinds are none of the class at C -/
def Far (K : PySem.W.Frag) (C : Addr) : Prop := ∀ d : PyData, PySem.W.kitOne K (.type (tyName d)) (.ref C) = some false
theorem any_own {K : PySem.W.Frag} {C : Addr} : PySem.W.kitAny K (.ref C) [.ref C, .type "tuple", .type "list"] = some true := kitAny_cons (b := true) kit_self (fun z => nomatch z) (fun _ => rfl)
theorem any_far {K : PySem.W.Frag} {C : Addr} (h : Far K C) (d : PyData) : PySem.W.kitAny K (.type (tyName d)) [.ref C, .type "tuple", .type "list"] = some (rowOf d).isSome := by
  have := any_tl (K := K) d
  unfold PySem.W.kitAny
  rw [h d]
  exact this
def OtherAt (K : PySem.W.Frag) (C : Addr) (H : Hp) (y : V) (ds : List PyData) : Prop := (∃ r, y = .ref r ∧ RunI K C H r ds) ∨ ∃ d, Val K H y d ∧ rowOf d = some ds
theorem OtherAt.same {K : PySem.W.Frag} {C : Addr} {H H' : Hp} {y : V} {ds : List PyData} (h : OtherAt K C H y ds) (s : Same H H') : OtherAt K C H' y ds := by
  rcases h with ⟨r, e, h⟩ | ⟨d, h, e⟩
  · exact .inl ⟨r, e, h.same s⟩
  · exact .inr ⟨d, h.same s, e⟩
theorem OtherAt.good {K : PySem.W.Frag} {C : Addr} {H : Hp} {y : V} {ds : List PyData} (h : OtherAt K C H y ds) : GG.Good 60 (.tuple ds) := by
  rcases h with ⟨r, e, dx, p, h1, h2⟩ | ⟨d, h, e⟩
  · exact h2.dp.2
  · obtain ⟨_, _, _, _, _, g⟩ := val_items h e
    exact g
def spMovesOf (K : PySem.W.Frag) (C S : Addr) : Sp := fun vs H Q E => ∃ y, vs = [y] ∧ ((∃ ds, OtherAt K C H y ds ∧ ∀ H' l xs, Same H H' → H l = none → H' l = some (.lst xs) → DpAll K H' xs ds → Q (.ref l) H') ∨
  (∃ d, Val K H y d ∧ rowOf d = none ∧ ∀ (a : Addr) (H' : Hp), H a = none → Same H H' → H' a = some (.xd [("move", y)]) → E (.ref S) (some a) H'))
section
variable {P : Program} {w : World} {K : PySem.W.Frag} {mg : Str → Option Value} {base : Heap} {lt0 lt1 : Tok} {C S fS N fN : Addr}
theorem sc_moves_of : FnScope ["other"] ["other"] (defScope s_moves_of) := ⟨rfl, rfl, rfl, by decide +kernel, rfl, by decide +kernel, by decide +kernel⟩
theorem ok_moves_of {f : Addr} {fd : FuncData} (F : Fun K "_moves_of" "_moves_of" s_moves_of f fd) (T : Txt K mg lt0 lt1) (CT : ClT K mg C) (TC : TyC K C) (FA : Far K C) (TS : ExT K mg "InvalidMove" "move" S fS) {fdS : FuncData} (bS : Binds K fdS ["self", "move"] []) (GS : FnOk P w K mg base CX0 1 fS fdS ["self", "move"] (spExI S "move"))
    {fi fl : Addr} (LC : LstC K C fi fl) (RI : FnR P w K mg base CX0 1 fi (spIterR K C)) (RL : FnR P w K mg base CX0 1 fl (spLenR K C)) : FnOk P w K mg base (L2.CX P w) 5 f fd ["other"] (spMovesOf K C S) := by
  refine F.okX sc_moves_of (fun vs H Q E h => ?_) (fun cdv A outer s H vs Q E hr h => ?_)
  · obtain ⟨y, rfl, _⟩ := h
    rfl
  · obtain ⟨y, rfl, h⟩ := h
    refine ⟨_, (pss_cons (ps_if (pt_not (pt_val (pe_callB call_isiT (by rfl) T.m_isinstance (by decide +kernel) (pa_cons (pv 0) (pa_cons (pe_tup (pa_cons (pe_glob (v := .ref C) rfl CT.mgC rfl) (pa_cons (pe_bltn (v := .ty "tuple") (u := .type "tuple") (by rfl) T.m_tuple (by decide +kernel) rfl) (pa_cons (pe_bltn (v := .ty "list") (u := .type "list") (by rfl) T.m_list (by decide +kernel) rfl) pa_nil)))) pa_nil))))) (pss_one (ps_raise rfl (takes_of rfl rfl rfl rfl) (pmk_oex TS.o TS.i TS.t GS (hr.mono (by decide)) bS .nil pass0 rfl TS.g (pa_cons (pv 0) pa_nil)))) pss_nil)
      (pss_one (ps_ret (pe_callTy (call_listO LC RI RL hr rfl) (by rfl) T.m_list (by decide +kernel) (pa_cons (pv 0) pa_nil))))), ?_⟩
    refine ⟨_, rfl, (by show 3 ≤ sizeLine; decide), fun t ht => ?_⟩
    have s1 : Same H (upd H t (.tup [V.ref C, V.ty "tuple", V.ty "list"])) := same_upd ht
    have et : (upd H t (.tup [V.ref C, V.ty "tuple", V.ty "list"])) t = some (.tup [V.ref C, V.ty "tuple", V.ty "list"]) := upd_same
    generalize upd H t (.tup [V.ref C, V.ty "tuple", V.ty "list"]) = H1 at s1 et
    have cs : Paired ClsV [V.ref C, V.ty "tuple", V.ty "list"] [.ref C, .type "tuple", .type "list"] := .cons (.own C) (.cons (.ty "tuple") (.cons (.ty "list") .nil))
    rcases h with ⟨ds, hO, q⟩ | ⟨d, hv, e, q⟩
    · rcases hO with ⟨r, rfl, row⟩ | ⟨d, hv, e⟩
      · have row1 := row.same s1
        obtain ⟨dx, p, k1, k2⟩ := id row1
        obtain ⟨b, xs, eb, hs, ha, hl, h1000, hget⟩ := k2.tup
        cases eb
        refine ⟨.ref r, t, _, _, _, _, rfl, et, cs, row1.ty CT.cl TC, any_own, _, rfl, iteF ?_⟩
        refine ⟨_, rfl, .inr ⟨r, dx, p, runF p, xs, rfl, k1, hs, by omega, fun H2 s2 => ⟨r, dx, p, xs, rfl, s2 _ _ k1, Same.seqT s2 hs, fun it hit => ⟨it, rfl, hit, rfl⟩⟩, fun H2 s2 => ⟨r, ds, rfl, row1.same s2, by rw [hl], rfl⟩, fun H2 l s2 hn hl2 => q H2 l xs (s1.trans s2) (s1.free hn) hl2 (dpAll_same s2 _ _ ha)⟩⟩
      · obtain ⟨a, xs, rfl, hs, ha, hg⟩ := val_items (hv.same s1) e
        refine ⟨_, t, _, _, _, _, rfl, et, cs, (hv.same s1).ty, any_far FA d, _, rfl, iteB (c := false) (by rw [e]; rfl) (iteF ?_)⟩
        exact ⟨_, rfl, .inl ⟨a, xs, rfl, hs.symm, fun l hl => q _ l xs (s1.trans (same_upd hl)) (s1.free hl) upd_same (dpAll_same (same_upd hl) _ _ ha)⟩⟩
    · refine ⟨_, t, _, _, _, _, rfl, et, cs, (hv.same s1).ty, any_far FA d, _, rfl, iteB (c := true) (by rw [e]; rfl) (iteT ⟨_, rfl, mko fun a H' h1 h2 h3 => q a H' (s1.free h1) (s1.trans h2) h3⟩)⟩
def catB {α : Type} (flip : Bool) (a b : List α) : List α := if flip = true then b ++ a else a ++ b
def spAdd (K : PySem.W.Frag) (C S : Addr) (flip : Bool) : Sp := fun vs H Q E => ∃ (r : Addr) (y : V) (ds : List PyData), vs = [.ref r, y] ∧ RunI K C H r ds ∧ ((∃ es, OtherAt K C H y es ∧ ds.length + es.length ≤ 1000 ∧
    ((∀ d ∈ catB flip ds es, isMoveP d = true) → ∀ H' r', Same H H' → H r' = none → RunI K C H' r' (catB flip ds es) → Q (.ref r') H') ∧
    ∀ i v d, BadAt (catB flip ds es) i → (catB flip ds es)[i]? = some d → ∀ (a : Addr) (H' : Hp), H a = none → Same H H' → H' a = some (.xd [("move", v)]) → Dp K H' v d → E (.ref S) (some a) H') ∨
  (∃ d, Val K H y d ∧ rowOf d = none ∧ ∀ (a : Addr) (H' : Hp), H a = none → Same H H' → H' a = some (.xd [("move", y)]) → E (.ref S) (some a) H'))
theorem dpAll_ix {H : Hp} {xs : List V} {ds : List PyData} {i : Nat} {d : PyData} (h : DpAll K H xs ds) (e : ds[i]? = some d) : ∃ v, xs[i]? = some v ∧ Dp K H v d := by
  have hl := dpAll_len h
  have hi := (List.getElem?_eq_some_iff.mp e).1
  exact ⟨xs[i]'(by omega), List.getElem?_eq_getElem (by omega), dpAll_at h (List.getElem?_eq_getElem (by omega)) e⟩
theorem sc_r_add : FnScope ["self", "other", "told"] ["self", "other"] (defScope sR_add) := ⟨rfl, rfl, rfl, by decide +kernel, rfl, by decide +kernel, by decide +kernel⟩
theorem ok_r_add {f : Addr} {fd : FuncData} (F : Fun K "__add__" "Run.__add__" sR_add f fd) (CT : ClT K mg C) {fI : Addr} (M : Mk K C fI) (GI : FnR P w K mg base (L2.CX P w) 4 fI (spStar 1 (spRunI K C S))) {f1 : Addr} {fd1 : FuncData} (F_moves_of : Fun K "_moves_of" "_moves_of" s_moves_of f1 fd1) (b_moves_of : Binds K fd1 ["other"] []) (g_moves_of : mg "_moves_of" = some (.ref f1)) (G_moves_of : FnOk P w K mg base (L2.CX P w) 5 f1 fd1 ["other"] (spMovesOf K C S)) : FnOk P w K mg base (L2.CX P w) 6 f fd ["self", "other"] (spAdd K C S false) := by
  refine F.okX sc_r_add (fun vs H Q E h => ?_) (fun cdv A outer s H vs Q E hr h => ?_)
  · obtain ⟨r, y, ds, rfl, _⟩ := h
    rfl
  · obtain ⟨r, y, ds, rfl, row, h⟩ := h
    refine ⟨_, (pss_cons (ps_set (i := 2) sc_r_add.nd rfl (.inl rfl) (pe_lst (pa_star (pe_fld (pv 0) rfl) (pa_star (pe_call G_moves_of hr (by rfl) g_moves_of F_moves_of.kp b_moves_of .nil (passX (takes_of rfl rfl rfl rfl)) (pa_cons (pv 1) pa_nil)) pa_nil)))) (pss_one (ps_ret (pe_makeSt (E := fun _ => E) M GI hr rfl CT.mgC (pat (passX (takes_of rfl rfl rfl rfl))) (pv 2))))), ?_⟩
    obtain ⟨dx, p, k1, k2⟩ := id row
    obtain ⟨b, xs, eb, hs, ha, hl, h1000, hget⟩ := k2.tup
    cases eb
    refine ⟨_, rfl, r, C, dx, _, _, rfl, k1, CT.cl, CT.nP, runF_p _, p, xs, rfl, .inl hs, _, rfl, y, rfl, ?_⟩
    rcases h with ⟨es, hO, hlen, q, qe⟩ | ⟨d, hv, e, q⟩
    · refine .inl ⟨es, hO, fun H1 l ys s1 n1 e1 hd1 => ⟨l, ys, rfl, .inr (.inl (.inl e1)), ?_⟩⟩
      dsimp only [tNil]
      rw [List.append_nil]
      have g2 := hO.good
      have gds := (GG.Good.tup (n := 59)).mp k2.dp.2
      have ges := (GG.Good.tup (n := 59)).mp g2
      have hll := dpAll_len hd1
      have hg : GG.Good 60 (.tuple (ds ++ es)) := good_t (n := 59) (by rw [List.length_append]; omega) fun d hd => (List.mem_append.mp hd).elim (fun z => gds.2 d z) fun z => ges.2 d z
      refine ⟨by rw [List.length_append]; exact Nat.le_of_lt (small1000 (by omega)), fun t2 ht2 => ?_⟩
      have s3 := s1.trans (same_upd (o := .lst (xs ++ ys)) ht2)
      have hA : DpAll K (upd H1 t2 (.lst (xs ++ ys))) (xs ++ ys) (ds ++ es) := dpAll_app (dpAll_same s3 _ _ ha) (dpAll_same (same_upd ht2) _ _ hd1)
      refine ⟨_, rfl, t2, _, rfl, .inr (.inl (.inl upd_same)), made_run (Q := fun r H' => Q (.ref r) H') hA hg (fun ok H' r' s4 n4 row4 => q ok H' r' (s3.trans s4) (s3.free n4) row4) fun i v hb hi a H' h1 h2 h3 => ?_⟩
      obtain ⟨d, hd, _⟩ := hb.1
      obtain ⟨v', hv', hdv⟩ := dpAll_ix hA hd
      cases hi.symm.trans hv'
      exact qe i v d hb hd a H' (s3.free h1) (s3.trans h2) h3 (dp_same h2 _ _ hdv)
    · exact .inr ⟨d, hv, e, q⟩
theorem sc_r_radd : FnScope ["self", "other", "told"] ["self", "other"] (defScope sR_radd) := ⟨rfl, rfl, rfl, by decide +kernel, rfl, by decide +kernel, by decide +kernel⟩
theorem ok_r_radd {f : Addr} {fd : FuncData} (F : Fun K "__radd__" "Run.__radd__" sR_radd f fd) (CT : ClT K mg C) {fI : Addr} (M : Mk K C fI) (GI : FnR P w K mg base (L2.CX P w) 4 fI (spStar 1 (spRunI K C S))) {f1 : Addr} {fd1 : FuncData} (F_moves_of : Fun K "_moves_of" "_moves_of" s_moves_of f1 fd1) (b_moves_of : Binds K fd1 ["other"] []) (g_moves_of : mg "_moves_of" = some (.ref f1)) (G_moves_of : FnOk P w K mg base (L2.CX P w) 5 f1 fd1 ["other"] (spMovesOf K C S)) : FnOk P w K mg base (L2.CX P w) 6 f fd ["self", "other"] (spAdd K C S true) := by
  refine F.okX sc_r_radd (fun vs H Q E h => ?_) (fun cdv A outer s H vs Q E hr h => ?_)
  · obtain ⟨r, y, ds, rfl, _⟩ := h
    rfl
  · obtain ⟨r, y, ds, rfl, row, h⟩ := h
    refine ⟨_, (pss_cons (ps_set (i := 2) sc_r_radd.nd rfl (.inl rfl) (pe_lst (pa_star (pe_call G_moves_of hr (by rfl) g_moves_of F_moves_of.kp b_moves_of .nil (passX (takes_of rfl rfl rfl rfl)) (pa_cons (pv 1) pa_nil)) (pa_star (pe_fld (pv 0) rfl) pa_nil)))) (pss_one (ps_ret (pe_makeSt (E := fun _ => E) M GI hr rfl CT.mgC (pat (passX (takes_of rfl rfl rfl rfl))) (pv 2))))), ?_⟩
    obtain ⟨dx, p, k1, k2⟩ := id row
    obtain ⟨b, xs, eb, hs, ha, hl, h1000, hget⟩ := k2.tup
    cases eb
    refine ⟨_, rfl, y, rfl, ?_⟩
    rcases h with ⟨es, hO, hlen, q, qe⟩ | ⟨d, hv, e, q⟩
    · refine .inl ⟨es, hO, fun H1 l ys s1 n1 e1 hd1 => ⟨l, ys, rfl, .inr (.inl (.inl e1)), _, rfl, r, C, dx, _, _, rfl, s1 _ _ k1, CT.cl, CT.nP, runF_p _, p, xs, rfl, .inl (Same.seqT s1 hs), ?_⟩⟩
      dsimp only [tNil]
      rw [List.append_nil]
      have g2 := hO.good
      have gds := (GG.Good.tup (n := 59)).mp k2.dp.2
      have ges := (GG.Good.tup (n := 59)).mp g2
      have hll := dpAll_len hd1
      have hg : GG.Good 60 (.tuple (es ++ ds)) := good_t (n := 59) (by rw [List.length_append]; omega) fun d hd => (List.mem_append.mp hd).elim (fun z => ges.2 d z) fun z => gds.2 d z
      refine ⟨by rw [List.length_append]; exact Nat.le_of_lt (small1000 (by omega)), fun t2 ht2 => ?_⟩
      have s3 := s1.trans (same_upd (o := .lst (ys ++ xs)) ht2)
      have hA : DpAll K (upd H1 t2 (.lst (ys ++ xs))) (ys ++ xs) (es ++ ds) := dpAll_app (dpAll_same (same_upd ht2) _ _ hd1) (dpAll_same s3 _ _ ha)
      refine ⟨_, rfl, t2, _, rfl, .inr (.inl (.inl upd_same)), made_run (Q := fun r H' => Q (.ref r) H') hA hg (fun ok H' r' s4 n4 row4 => q ok H' r' (s3.trans s4) (s3.free n4) row4) fun i v hb hi a H' h1 h2 h3 => ?_⟩
      obtain ⟨d, hd, _⟩ := hb.1
      obtain ⟨v', hv', hdv⟩ := dpAll_ix hA hd
      cases hi.symm.trans hv'
      exact qe i v d hb hd a H' (s3.free h1) (s3.trans h2) h3 (dp_same h2 _ _ hdv)
    · exact .inr ⟨d, hv, e, q⟩
theorem sc_r_iadd : FnScope ["self", "other", "told"] ["self", "other"] (defScope sR_iadd) := ⟨rfl, rfl, rfl, by decide +kernel, rfl, by decide +kernel, by decide +kernel⟩
theorem ok_r_iadd {f : Addr} {fd : FuncData} (F : Fun K "__iadd__" "Run.__iadd__" sR_iadd f fd) (CT : ClT K mg C) {fI : Addr} (M : Mk K C fI) (GI : FnR P w K mg base (L2.CX P w) 4 fI (spStar 1 (spRunI K C S))) {f1 : Addr} {fd1 : FuncData} (F_moves_of : Fun K "_moves_of" "_moves_of" s_moves_of f1 fd1) (b_moves_of : Binds K fd1 ["other"] []) (g_moves_of : mg "_moves_of" = some (.ref f1)) (G_moves_of : FnOk P w K mg base (L2.CX P w) 5 f1 fd1 ["other"] (spMovesOf K C S)) : FnOk P w K mg base (L2.CX P w) 6 f fd ["self", "other"] (spAdd K C S false) := by
  refine F.okX sc_r_iadd (fun vs H Q E h => ?_) (fun cdv A outer s H vs Q E hr h => ?_)
  · obtain ⟨r, y, ds, rfl, _⟩ := h
    rfl
  · obtain ⟨r, y, ds, rfl, row, h⟩ := h
    refine ⟨_, (pss_cons (ps_set (i := 2) sc_r_iadd.nd rfl (.inl rfl) (pe_lst (pa_star (pe_fld (pv 0) rfl) (pa_star (pe_call G_moves_of hr (by rfl) g_moves_of F_moves_of.kp b_moves_of .nil (passX (takes_of rfl rfl rfl rfl)) (pa_cons (pv 1) pa_nil)) pa_nil)))) (pss_one (ps_ret (pe_makeSt (E := fun _ => E) M GI hr rfl CT.mgC (pat (passX (takes_of rfl rfl rfl rfl))) (pv 2))))), ?_⟩
    obtain ⟨dx, p, k1, k2⟩ := id row
    obtain ⟨b, xs, eb, hs, ha, hl, h1000, hget⟩ := k2.tup
    cases eb
    refine ⟨_, rfl, r, C, dx, _, _, rfl, k1, CT.cl, CT.nP, runF_p _, p, xs, rfl, .inl hs, _, rfl, y, rfl, ?_⟩
    rcases h with ⟨es, hO, hlen, q, qe⟩ | ⟨d, hv, e, q⟩
    · refine .inl ⟨es, hO, fun H1 l ys s1 n1 e1 hd1 => ⟨l, ys, rfl, .inr (.inl (.inl e1)), ?_⟩⟩
      dsimp only [tNil]
      rw [List.append_nil]
      have g2 := hO.good
      have gds := (GG.Good.tup (n := 59)).mp k2.dp.2
      have ges := (GG.Good.tup (n := 59)).mp g2
      have hll := dpAll_len hd1
      have hg : GG.Good 60 (.tuple (ds ++ es)) := good_t (n := 59) (by rw [List.length_append]; omega) fun d hd => (List.mem_append.mp hd).elim (fun z => gds.2 d z) fun z => ges.2 d z
      refine ⟨by rw [List.length_append]; exact Nat.le_of_lt (small1000 (by omega)), fun t2 ht2 => ?_⟩
      have s3 := s1.trans (same_upd (o := .lst (xs ++ ys)) ht2)
      have hA : DpAll K (upd H1 t2 (.lst (xs ++ ys))) (xs ++ ys) (ds ++ es) := dpAll_app (dpAll_same s3 _ _ ha) (dpAll_same (same_upd ht2) _ _ hd1)
      refine ⟨_, rfl, t2, _, rfl, .inr (.inl (.inl upd_same)), made_run (Q := fun r H' => Q (.ref r) H') hA hg (fun ok H' r' s4 n4 row4 => q ok H' r' (s3.trans s4) (s3.free n4) row4) fun i v hb hi a H' h1 h2 h3 => ?_⟩
      obtain ⟨d, hd, _⟩ := hb.1
      obtain ⟨v', hv', hdv⟩ := dpAll_ix hA hd
      cases hi.symm.trans hv'
      exact qe i v d hb hd a H' (s3.free h1) (s3.trans h2) h3 (dp_same h2 _ _ hdv)
    · exact .inr ⟨d, hv, e, q⟩
end
end K12

namespace K12
open PySem PySem.Spec PyProof.Rows StX L2 TL GG OO
theorem lk1 (f : Str) (v : V) : ([(f, v)] : List (Str × V)).lookup f = some v := by simp [List.lookup]
/-- what is written out: data that can be, and an empty dict -/
def ShowD (d : PyData) : Prop := d.showable = true ∧ d.shown.length ≤ sizeLine ∧ d.depth ≤ 60
def ShowV (K : PySem.W.Frag) (H : Hp) (v : V) (d : PyData) : Prop := (Dp K H v d ∧ ShowD d) ∨ (d = .dict [] ∧ ∃ a, v = .ref a ∧ H a = some (.dK []))
theorem ShowV.same {K : PySem.W.Frag} {H H' : Hp} {v : V} {d : PyData} (h : ShowV K H v d) (s : Same H H') : ShowV K H' v d := by
  rcases h with ⟨h, g⟩ | ⟨e, a, e2, h⟩
  · exact .inl ⟨dp_same s _ _ h, g⟩
  · exact .inr ⟨e, a, e2, s _ _ h⟩
theorem ShowV.repr {K : PySem.W.Frag} {H : Hp} {v : V} {d : PyData} {Q : VK} (h : ShowV K H v d) (q : Q (.str d.shown) H) : rReprD K [v] H Q := by
  rcases h with ⟨h, g1, g2, g3⟩ | ⟨rfl, a, rfl, h⟩
  · exact .inl ⟨v, d, rfl, h, g1, g2, g3, q⟩
  · exact .inr ⟨a, rfl, h, by
      have e : PyData.shown (.dict []) = ("{}" : Str) := by decide +kernel
      rw [e] at q
      exact q⟩
section
variable {P : Program} {w : World} {K : PySem.W.Frag} {mg : Str → Option Value} {base : Heap} {lt0 lt1 : Tok} {C S fS N fN : Addr}
theorem sc_l_is_move : FnScope ["_law_value"] ["_law_value"] (defScope s_l_is_move) := ⟨rfl, rfl, rfl, by decide +kernel, rfl, by decide +kernel, by decide +kernel⟩
theorem ok_l_is_move {f : Addr} {fd : FuncData} (F : Fun K "_law_is_move" "_law_is_move" s_l_is_move f fd) (T : Txt K mg lt0 lt1) {f1 : Addr} {fd1 : FuncData} (F_is_name : Fun K "is_name" "is_name" s_is_name f1 fd1) (b_is_name : Binds K fd1 ["value"] []) (g_is_name : mg "is_name" = some (.ref f1)) (G_is_name : FnOk P w K mg base CX0 1 f1 fd1 ["value"] (spChk K isNameP)) : FnOk P w K mg base CX0 2 f fd ["_law_value"] (spChk K isMoveP) := by
  refine F.ok sc_l_is_move (fun vs H Q E h => ?_) (fun cdv A outer s H vs Q E hr h => ?_)
  · obtain ⟨x, d, rfl, _⟩ := h
    rfl
  · obtain ⟨x, d, rfl, hv, q⟩ := h
    refine ⟨_, (pss_cons (ps_if (PW.pt (pw_or (pt_not (pt_val (pe_callB call_isi (by rfl) T.m_isinstance (by decide +kernel) (pa_cons (pv 0) (pa_cons (pe_bltn (v := .ty "tuple") (u := .type "tuple") (by rfl) T.m_tuple (by decide +kernel) rfl) pa_nil))))) (pw_or (pt_not (pt_chain op_le op_le pe_int (pe_callB call_len_seq (by rfl) T.m_len PySem.boot_len (pa_cons (pv 0) pa_nil)) pe_int)) (pw_or1 (pt_not (pt_val (pe_callB call_isi (by rfl) T.m_isinstance (by decide +kernel) (pa_cons (pe_ix ix_tup (pv 0) pe_int (fun _ _ => rfl)) (pa_cons (pe_bltn (v := .ty "str") (u := .type "str") (by rfl) T.m_str (by decide +kernel) rfl) pa_nil))))))))) (pss_one (ps_ret pe_bl)) pss_nil)
      (pss_cons (ps_if (pt_cmpR op_eq (pe_callB call_len_seq (by rfl) T.m_len PySem.boot_len (pa_cons (pv 0) pa_nil)) pe_int (nomark _)) (pss_one (ps_ret (pe_cmpR op_in_seq (pe_ix ix_tup (pv 0) pe_int (fun _ _ => rfl)) (pe_lst (pa_cons pe_str (pa_cons pe_str pa_nil))) (by rfl)))) pss_nil)
      (pss_cons (ps_if (pt_cmpR op_eq (pe_ix ix_tup (pv 0) pe_int (fun _ _ => rfl)) pe_str (nomark _)) (pss_one (ps_ret (pe_and (pe_callB call_isi (by rfl) T.m_isinstance (by decide +kernel) (pa_cons (pe_ix ix_tup (pv 0) pe_int (fun _ _ => rfl)) (pa_cons (pe_bltn (v := .ty "int") (u := .type "int") (by rfl) T.m_int (by decide +kernel) rfl) pa_nil))) (pe_and (pe_not (pe_callB call_isi (by rfl) T.m_isinstance (by decide +kernel) (pa_cons (pe_ix ix_tup (pv 0) pe_int (fun _ _ => rfl)) (pa_cons (pe_bltn (v := .ty "bool") (u := .type "bool") (by rfl) T.m_bool (by decide +kernel) rfl) pa_nil)))) (pe_one (pe_chain op_le op_le pe_int (pe_ix ix_tup (pv 0) pe_int (fun _ _ => rfl)) pe_int)))))) pss_nil)
      (pss_one (ps_ret (pe_and (pe_cmpR op_in_seq (pe_ix ix_tup (pv 0) pe_int (fun _ _ => rfl)) (pe_lst (pa_cons pe_str (pa_cons pe_str pa_nil))) (by rfl)) (pe_one (pe_call G_is_name hr (by rfl) g_is_name F_is_name.kp b_is_name .nil pass0 (pa_cons (pe_ix ix_tup (pv 0) pe_int (fun _ _ => rfl)) pa_nil))))))))), ?_⟩
    refine ⟨_, rfl, _, _, _, _, _, rfl, .ty "tuple", hv.ty, isi_tup d, _, rfl, ?_⟩
    cases ht : isTup d with
    | false =>
      have e : isMoveP d = false := by cases d <;> first | rfl | cases ht
      have := q H (Same.refl H)
      rw [e] at this
      exact iteT this
    | true =>
      obtain ⟨ds, rfl⟩ : ∃ ds, d = .tuple ds := by cases d <;> first | exact ⟨_, rfl⟩ | cases ht
      obtain ⟨b, xs, rfl, hs, ha, hl, h1000, hget⟩ := hv.tup
      have no : ¬ (ds.length = 1 ∨ ds.length = 2) → Q (.bl false) H := fun z => by
        have := q H (Same.refl H)
        rw [mv_len z] at this
        exact this
      refine iteF ⟨_, rfl, b, xs, rfl, .inr hs, _, _, rfl, rfl, _, rfl, ite2 (fun h1 => ⟨_, _, rfl, rfl, _, rfl, ite2 (fun h2 => no fun z => by simp at h2; omega) (fun h2 => ?_)⟩) (fun h1 => ⟨_, rfl, iteT (no fun z => h1 (decide_eq_true (by omega)))⟩)⟩
      have h1 : (1 : Int) ≤ xs.length := of_decide_eq_true h1
      have h2 : (xs.length : Int) ≤ 2 := by simpa using h2
      obtain ⟨d0, r, rfl⟩ : ∃ d0 r, ds = d0 :: r := by
        match ds, hl with
        | [], h => rw [List.length_nil] at h; omega
        | a :: b, _ => exact ⟨a, b, rfl⟩
      obtain ⟨v0, hx0, hv0⟩ := hget 0 d0 rfl
      refine ⟨_, rfl, b, xs, _, _, rfl, rfl, hs, atI_nat hx0, _, _, _, _, _, rfl, .ty "str", hv0.ty, isi_str d0, _, rfl, ?_⟩
      cases hstr : isStr d0 with
      | false =>
        have := q H (Same.refl H)
        rw [mv_str hstr] at this
        exact iteT this
      | true =>
        obtain ⟨z, rfl⟩ : ∃ z, d0 = .str z := by cases d0 <;> first | exact ⟨_, rfl⟩ | cases hstr
        obtain ⟨rfl, hz, _⟩ := hv0.str
        refine iteF ⟨_, rfl, b, xs, rfl, .inr hs, rfl, _, rfl, ite2 (fun h1 => ?_) (fun h1 => ?_)⟩
        · have h1 : (xs.length : Int) = 1 := V.int.inj (of_decide_eq_true h1)
          obtain rfl : r = [] := by
            rw [List.length_cons] at hl
            exact List.length_eq_zero_iff.mp (by omega)
          refine ⟨_, rfl, b, xs, _, _, rfl, rfl, hs, atI_nat hx0, (by show 2 ≤ sizeLine; decide), fun t2 nt2 => ⟨t2, _, rfl, .inl (.inl (.inl upd_same)), rfl, flat_words ["come", "step"], ?_⟩⟩
          have := q _ (same_upd (o := .lst [V.str "come", .str "step"]) nt2)
          show Q (.bl (inV (.str z) ((["come", "step"] : List Str).map V.str))) _
          rw [inV_words]
          exact this
        · have hl2 : r.length = 1 := by
            rw [List.length_cons] at hl
            have : ¬ (xs.length : Int) = 1 := fun y => h1 (decide_eq_true (by rw [y]))
            omega
          obtain ⟨d1, rfl⟩ := List.length_eq_one_iff.mp hl2
          obtain ⟨v1, hx1, hv1⟩ := hget 1 d1 rfl
          refine ⟨_, rfl, b, xs, _, _, rfl, rfl, hs, atI_nat hx0, rfl, _, rfl, ite2 (fun h2 => ?_) (fun h2 => ?_)⟩
          · have h2 : z = "go" := V.str.inj (of_decide_eq_true h2)
            have e : isMoveP (.tuple [.str z, d1]) = isIntP 0 13 d1 := if_pos h2
            have q := q H (Same.refl H)
            rw [e] at q
            cases d1 with
            | int n =>
              obtain rfl : v1 = .int n := by
                rcases hv1 with ⟨h, _⟩ | ⟨h, _⟩
                · cases h
                  rfl
                · cases h
              refine ⟨_, rfl, b, xs, _, _, rfl, rfl, hs, atI_nat hx1, _, _, _, _, true, rfl, .ty "int", .base (.int n), kit_ty (by decide +kernel), _, rfl, iteT ⟨_, rfl, b, xs, _, _, rfl, rfl, hs, atI_nat hx1, _, _, _, _, false, rfl, .ty "bool", .base (.int n), kit_ty (by decide +kernel), _, rfl, _, rfl, iteT ⟨_, rfl, b, xs, _, _, rfl, rfl, hs, atI_nat hx1, _, _, rfl, rfl, _, rfl, ite2 (fun g1 => ⟨_, _, rfl, rfl, ?_⟩) (fun g1 => ?_)⟩⟩⟩
              · have e2 : isIntP 0 13 (.int n) = decide (n ≤ 13) := by
                  show (decide (0 ≤ n) && decide (n ≤ 13)) = _
                  rw [show decide (0 ≤ n) = true from g1, Bool.true_and]
                rw [e2] at q
                exact q
              · have e2 : isIntP 0 13 (.int n) = false := by
                  show (decide (0 ≤ n) && decide (n ≤ 13)) = _
                  rw [show decide (0 ≤ n) = false from bf g1, Bool.false_and]
                rw [e2] at q
                exact q
            | bool c =>
              have ty : TyX K H v1 (.type "bool") := hv1.ty
              exact ⟨_, rfl, b, xs, _, _, rfl, rfl, hs, atI_nat hx1, _, _, _, _, true, rfl, .ty "int", ty, kit_ty (by decide +kernel), _, rfl, iteT ⟨_, rfl, b, xs, _, _, rfl, rfl, hs, atI_nat hx1, _, _, _, _, true, rfl, .ty "bool", ty, kit_ty (by decide +kernel), _, rfl, _, rfl, iteF q⟩⟩
            | none =>
              have ty : TyX K H v1 (.type "NoneType") := hv1.ty
              exact ⟨_, rfl, b, xs, _, _, rfl, rfl, hs, atI_nat hx1, _, _, _, _, false, rfl, .ty "int", ty, kit_ty (by decide +kernel), _, rfl, iteF q⟩
            | str z9 =>
              have ty : TyX K H v1 (.type "str") := hv1.ty
              exact ⟨_, rfl, b, xs, _, _, rfl, rfl, hs, atI_nat hx1, _, _, _, _, false, rfl, .ty "int", ty, kit_ty (by decide +kernel), _, rfl, iteF q⟩
            | list z9 =>
              have ty : TyX K H v1 (.type "list") := hv1.ty
              exact ⟨_, rfl, b, xs, _, _, rfl, rfl, hs, atI_nat hx1, _, _, _, _, false, rfl, .ty "int", ty, kit_ty (by decide +kernel), _, rfl, iteF q⟩
            | tuple z9 =>
              have ty : TyX K H v1 (.type "tuple") := hv1.ty
              exact ⟨_, rfl, b, xs, _, _, rfl, rfl, hs, atI_nat hx1, _, _, _, _, false, rfl, .ty "int", ty, kit_ty (by decide +kernel), _, rfl, iteF q⟩
            | dict z9 =>
              have ty : TyX K H v1 (.type "dict") := hv1.ty
              exact ⟨_, rfl, b, xs, _, _, rfl, rfl, hs, atI_nat hx1, _, _, _, _, false, rfl, .ty "int", ty, kit_ty (by decide +kernel), _, rfl, iteF q⟩
          · have h2 : ¬ z = "go" := fun y => h2 (decide_eq_true (by rw [y]))
            have e : isMoveP (.tuple [.str z, d1]) = ((["begin", "run"] : List Str).any (· == z) && isNameP d1) := if_neg h2
            refine ⟨_, rfl, b, xs, _, _, rfl, rfl, hs, atI_nat hx0, (by show 2 ≤ sizeLine; decide), fun t2 nt2 => ⟨t2, _, rfl, .inl (.inl (.inl upd_same)), rfl, flat_words ["begin", "run"], ?_⟩⟩
            have s2 := same_upd (o := .lst [V.str "begin", .str "run"]) nt2
            have en : inV (.str z) [V.str "begin", .str "run"] = (["begin", "run"] : List Str).any (· == z) := inV_words (z := z) ["begin", "run"]
            refine ⟨_, rfl, iteB en (ite2 (fun h3 => ?_) (fun h3 => ?_))⟩
            · refine ⟨_, rfl, b, xs, _, _, rfl, rfl, Same.seqT s2 hs, atI_nat hx1, v1, d1, rfl, hv1.same s2, fun H' s' => ?_⟩
              have := q H' (s2.trans s')
              rw [e, h3, Bool.true_and] at this
              exact this
            · have := q _ s2
              rw [e, bf h3, Bool.false_and] at this
              exact this
theorem badAt_inj {ds : List PyData} {i j : Nat} (a : BadAt ds i) (b : BadAt ds j) : i = j := by
  obtain ⟨⟨d, h1, h2⟩, h3⟩ := a
  obtain ⟨⟨e, k1, k2⟩, k3⟩ := b
  rcases Nat.lt_trichotomy i j with h | h | h
  · rw [k3 i d h h1] at h2
    cases h2
  · exact h
  · rw [h3 j e h k1] at k2
    cases k2
def spBadL (K : PySem.W.Frag) : Sp := fun vs H Q _ => ∃ (a : Addr) (xs : List V) (ds : List PyData) (i : Nat) (d : PyData), vs = [.ref a] ∧ SqT K H a xs ∧ DpAll K H xs ds ∧ GG.Good 60 (.tuple ds) ∧ BadAt ds i ∧ ds[i]? = some d ∧ ShowD d ∧ ∀ H' l, Same H H' → H l = none → H' l = some (.lst [.str d.shown]) → Q (.ref l) H'
theorem sc_l_wrong : FnScope ["_law_some", "_law_move"] ["_law_some"] (defScope s_l_wrong) := ⟨rfl, rfl, rfl, by decide +kernel, rfl, by decide +kernel, by decide +kernel⟩
theorem ok_l_wrong {f : Addr} {fd : FuncData} (F : Fun K "_law_wrong" "_law_wrong" s_l_wrong f fd) (T : Txt K mg lt0 lt1) {f1 : Addr} {fd1 : FuncData} (F_l_is_move : Fun K "_law_is_move" "_law_is_move" s_l_is_move f1 fd1) (b_l_is_move : Binds K fd1 ["_law_value"] []) (g_l_is_move : mg "_law_is_move" = some (.ref f1)) (G_l_is_move : FnOk P w K mg base CX0 2 f1 fd1 ["_law_value"] (spChk K isMoveP)) : FnG P w K mg base CX0 3 f fd ["_law_some"] (spBadL K) := by
  refine Fun.okG F sc_l_wrong (fun vs H Q E h => ?_) (fun cdv A outer s H vs Q E hr gd h => ?_)
  · obtain ⟨a, xs, ds, i, d, rfl, _⟩ := h
    rfl
  · obtain ⟨a, xs, ds, i0, d0, rfl, hs, ha, hg, hb, hd0, hsh, q⟩ := h
    have hu65 : (A.deeper (envOfC "_law_wrong" (defScope s_l_wrong) s.heap.objs.size f cdv)).units + 65 < cLine := room65x hr
    refine ⟨_, (pss_cons (ps_for PassesOwn.never rfl (pi_tup (pv 0)) (pg_name (i := 1) sc_l_wrong.nd rfl (.inl rfl))
        (pss_one (ps_if (pt_not (pt_val (pe_call G_l_is_move hr (by rfl) g_l_is_move F_l_is_move.kp b_l_is_move .nil pass0 (pa_cons (pv 1) pa_nil)))) (pss_one (ps_ret (pe_lst (pa_cons (pe_callB (call_reprD gd hu65) (by rfl) T.m_repr (by decide +kernel) (by exact (pa_cons (pv 1) pa_nil))) pa_nil)))) pss_nil)))
      (pss_one (ps_ret (pe_lst pa_nil)))), ?_⟩
    have hl := dpAll_len ha
    have hgd := (GG.Good.tup (n := 59)).mp hg
    have hi0 := (List.getElem?_eq_some_iff.mp hd0).1
    refine ⟨_, rfl, a, rfl, ⟨_, hs⟩, for_it (walk_tup (xs := xs)) (fun i σ H' => Same H H' ∧ i ≤ i0 ∧ ∃ y : Option V, σ = [some (.ref a), y]) ⟨Same.refl H, Nat.zero_le _, _, rfl⟩ (fun i σ H' _ h => Same.seqT h.1 hs) ?_ ?_⟩
    · rintro i v σ _ H1 hi ⟨s1, hle, y, rfl⟩ ⟨rfl, hx1⟩
      have hid : i < ds.length := by omega
      have hdi : ds[i]? = some ds[i] := List.getElem?_eq_getElem hid
      have hv : Val K H v ds[i] := .inl ⟨dpAll_at ha hx1 hdi, (hgd.2 _ (List.mem_of_getElem? hdi)).mono (by decide)⟩
      refine ⟨_, rfl, v, ds[i], rfl, hv.same s1, fun H2 s2 => ⟨_, rfl, ?_⟩⟩
      by_cases e : i = i0
      · subst e
        rw [hdi] at hd0
        obtain ⟨⟨d, hd, hm⟩, _⟩ := hb
        rw [hdi] at hd
        cases hd0
        cases hd
        refine iteB (c := true) (by rw [hm]; rfl) (iteT ⟨_, rfl, .inl ⟨v, _, rfl, dp_same (s1.trans s2) _ _ (dpAll_at ha hx1 hdi), hsh.1, hsh.2.1, hsh.2.2, (by show 1 ≤ sizeLine; decide), fun l hl => q _ l ((s1.trans s2).trans (same_upd hl)) ((s1.trans s2).free hl) upd_same⟩⟩)
      · have hm := hb.2 i _ (by omega) hdi
        exact iteB (c := false) (by rw [hm]; rfl) (iteF ⟨s1.trans s2, by omega, _, rfl⟩)
    · rintro σ H1 ⟨s1, hle, y, rfl⟩
      omega
theorem sc_l_made : FnScope ["_law_some", "e"] ["_law_some"] (defScope s_l_made) := ⟨rfl, rfl, rfl, by decide +kernel, rfl, by decide +kernel, by decide +kernel⟩
theorem ok_l_made {f : Addr} {fd : FuncData} (F : Fun K "_law_made" "_law_made" s_l_made f fd) (T : Txt K mg lt0 lt1) (CT : ClT K mg C) (TS : ExT K mg "InvalidMove" "move" S fS) {mc : Value} (RD : ClX.CRead K C mc) {sm fO : Addr} (SM : SMet K C mc "of" sm fO) (RO : FnR P w K mg base (L2.CX P w) 6 fO (spOf K C S)) : FnG P w K mg base CX0 7 f fd ["_law_some"] (spBadL K) := by
  refine Fun.okG F sc_l_made (fun vs H Q E h => ?_) (fun cdv A outer s H vs Q E hr gd h => ?_)
  · obtain ⟨a, xs, ds, i, d, rfl, _⟩ := h
    rfl
  · obtain ⟨a, xs, ds, i0, d0, rfl, hs, ha, hg, hb, hd0, hsh, q⟩ := h
    have hu65 : (A.deeper (envOfC "_law_made" (defScope s_l_made) s.heap.objs.size f cdv)).units + 65 < cLine := room65x hr
    refine ⟨_, pss_one (ps_try_as (i := 1) (tb := _) (ts := fun a cls d => tRet (tLst (tCons (tCB (rReprD K) (tCons (tXf a cls d S "move" (tVar 1)) tNil)) tNil))) (Wout := fun _ _ _ _ => False) rfl rfl sc_l_made.nd rfl rfl ⟨rfl, by decide, .inl TS.g⟩ takes0
      (fun W pn xe tk _ => pss_one (ps_ret (by exact (pe_smethS (E := WE W) (pe_glob (v := .ref C) rfl CT.mgC rfl) RD SM RO hr (fun σ => passAt tk σ) (pa_cons (pv 0) pa_nil)))))
      (fun a oe cls d pn hzc hf => (pss_one (ps_ret (pe_lst (by exact (pa_cons (pe_callB (call_reprD gd hu65) (by rfl) T.m_repr (by decide +kernel) (by exact (pa_cons (pe_xf TS.x TS.no hzc hf (pv 1)) pa_nil))) pa_nil))))))), ?_⟩
    refine ⟨rfl, _, rfl, a, xs, ds, rfl, .inl hs, ha, hg, fun ok => ?_, fun i v hbi hi d H' h1 s1 h3 => ?_⟩
    · obtain ⟨⟨d, hd, hm⟩, _⟩ := hb
      rw [ok d (List.mem_of_getElem? hd)] at hm
      cases hm
    · obtain rfl : i = i0 := badAt_inj hbi hb
      exact ⟨true, TS.te, fun _ b hb2 => ⟨_, rfl, rfl, rfl, d, _, v, rfl, h3, lk1 _ _, .inl ⟨v, _, rfl, dp_same s1 _ _ (dpAll_at ha hi hd0), hsh.1, hsh.2.1, hsh.2.2, (by show 1 ≤ sizeLine; decide), fun l hl => q _ l (s1.trans (same_upd hl)) (s1.free hl) upd_same⟩⟩, fun z => nomatch z⟩
/-- what is added in vain -/
inductive NoSum : PyData → Prop
  | non : NoSum .none
  | int (n : Int) : NoSum (.int n)
  | str (z : Str) : NoSum (.str z)
  | dict : NoSum (.dict [])
def spSum (K : PySem.W.Frag) (C : Addr) : Sp := fun vs H Q _ => ∃ (r : Addr) (y : V) (ds : List PyData) (d0 : PyData), vs = [.ref r, y] ∧ RunI K C H r ds ∧ ((∃ es i, Val K H y (.tuple es) ∧ ds.length + es.length ≤ 1000 ∧ BadAt (ds ++ es) i ∧ (ds ++ es)[i]? = some d0 ∧ ShowD d0) ∨
  (NoSum d0 ∧ Val K H y d0 ∧ ShowV K H y d0)) ∧ ∀ H' l, Same H H' → H l = none → H' l = some (.lst [.str d0.shown]) → Q (.ref l) H'
theorem NoSum.row {d : PyData} (h : NoSum d) : rowOf d = none := by cases h <;> rfl
theorem sc_l_sum : FnScope ["_law_one", "_law_other", "e"] ["_law_one", "_law_other"] (defScope s_l_sum) := ⟨rfl, rfl, rfl, by decide +kernel, rfl, by decide +kernel, by decide +kernel⟩
theorem ok_l_sum {f : Addr} {fd : FuncData} (F : Fun K "_law_sum" "_law_sum" s_l_sum f fd) (T : Txt K mg lt0 lt1) (TS : ExT K mg "InvalidMove" "move" S fS) {gl gr gi : Addr} (AC : AddC K C gl gr gi) (RA : FnR P w K mg base (L2.CX P w) 6 gl (spAdd K C S false)) : FnG P w K mg base CX0 7 f fd ["_law_one", "_law_other"] (spSum K C) := by
  refine Fun.okG F sc_l_sum (fun vs H Q E h => ?_) (fun cdv A outer s H vs Q E hr gd h => ?_)
  · obtain ⟨r, y, ds, d0, rfl, _⟩ := h
    rfl
  · obtain ⟨r, y, ds, d0, rfl, row, h, q⟩ := h
    have hu65 : (A.deeper (envOfC "_law_sum" (defScope s_l_sum) s.heap.objs.size f cdv)).units + 65 < cLine := room65x hr
    refine ⟨_, pss_one (ps_try_as (i := 2) (tb := fun W => tRet (tAddL K C (spAdd K C S false) (WE W) (tVar 0) (tVar 1))) (ts := fun a cls d => tRet (tLst (tCons (tCB (rReprD K) (tCons (tXf a cls d S "move" (tVar 2)) tNil)) tNil))) (Wout := fun _ _ _ _ => False) rfl rfl sc_l_sum.nd rfl rfl ⟨rfl, by decide, .inl TS.g⟩ takes0
      (fun W pn xe tk _ => pss_one (ps_ret (by exact (pe_addL (E := WE W) AC RA hr (fun σ => passAt tk σ) (pv 0) (pv 1)))))
      (fun a oe cls d pn hzc hf => (pss_one (ps_ret (pe_lst (by exact (pa_cons (pe_callB (call_reprD gd hu65) (by rfl) T.m_repr (by decide +kernel) (by exact (pa_cons (pe_xf TS.x TS.no hzc hf (pv 2)) pa_nil))) pa_nil))))))), ?_⟩
    obtain ⟨dx, p, k1, k2⟩ := id row
    refine ⟨_, rfl, _, rfl, r, dx, _, rfl, k1, ?_⟩
    rcases h with ⟨es, i0, hv, hlen, hb, hd0, hsh⟩ | ⟨hn, hv, hsh⟩
    · refine .inl ⟨_, hv.ty, .inr ⟨"tuple", rfl, fill_tup⟩, r, y, ds, rfl, row, .inl ⟨es, .inr ⟨_, hv, rfl⟩, hlen, fun ok => ?_, fun i v d hbi hd a H' h1 s1 h3 hdp => ?_⟩⟩
      · obtain ⟨⟨d, hd, hm⟩, _⟩ := hb
        rw [ok d (List.mem_of_getElem? hd)] at hm
        cases hm
      · obtain rfl : i = i0 := badAt_inj hbi hb
        obtain rfl : d = d0 := Option.some.inj (hd.symm.trans hd0)
        exact ⟨true, TS.te, fun _ b hb2 => ⟨_, rfl, rfl, rfl, a, _, v, rfl, h3, lk1 _ _, .inl ⟨v, _, rfl, hdp, hsh.1, hsh.2.1, hsh.2.2, (by show 1 ≤ sizeLine; decide), fun l hl => q _ l (s1.trans (same_upd hl)) (s1.free hl) upd_same⟩⟩, fun z => nomatch z⟩
    · rcases hsh with ⟨hdp, hsh⟩ | ⟨rfl, ae, rfl, hae⟩
      · cases hn with
        | non => exact .inl ⟨_, hv.ty, .inr ⟨"NoneType", rfl, fill_none⟩, r, y, ds, rfl, row, .inr ⟨_, hv, rfl, fun a H' h1 s1 h3 => ⟨true, TS.te, fun _ b hb2 => ⟨_, rfl, rfl, rfl, a, _, y, rfl, h3, lk1 _ _, .inl ⟨y, _, rfl, dp_same s1 _ _ hdp, hsh.1, hsh.2.1, hsh.2.2, (by show 1 ≤ sizeLine; decide), fun l hl => q _ l (s1.trans (same_upd hl)) (s1.free hl) upd_same⟩⟩, fun z => nomatch z⟩⟩⟩
        | int n => exact .inr ⟨hv.ty, r, y, ds, rfl, row, .inr ⟨_, hv, rfl, fun a H' h1 s1 h3 => ⟨true, TS.te, fun _ b hb2 => ⟨_, rfl, rfl, rfl, a, _, y, rfl, h3, lk1 _ _, .inl ⟨y, _, rfl, dp_same s1 _ _ hdp, hsh.1, hsh.2.1, hsh.2.2, (by show 1 ≤ sizeLine; decide), fun l hl => q _ l (s1.trans (same_upd hl)) (s1.free hl) upd_same⟩⟩, fun z => nomatch z⟩⟩⟩
        | str z => exact .inl ⟨_, hv.ty, .inr ⟨"str", rfl, fill_str⟩, r, y, ds, rfl, row, .inr ⟨_, hv, rfl, fun a H' h1 s1 h3 => ⟨true, TS.te, fun _ b hb2 => ⟨_, rfl, rfl, rfl, a, _, y, rfl, h3, lk1 _ _, .inl ⟨y, _, rfl, dp_same s1 _ _ hdp, hsh.1, hsh.2.1, hsh.2.2, (by show 1 ≤ sizeLine; decide), fun l hl => q _ l (s1.trans (same_upd hl)) (s1.free hl) upd_same⟩⟩, fun z => nomatch z⟩⟩⟩
        | dict => exact .inl ⟨_, hv.ty, .inr ⟨"dict", rfl, fill_dict⟩, r, y, ds, rfl, row, .inr ⟨_, hv, rfl, fun a H' h1 s1 h3 => ⟨true, TS.te, fun _ b hb2 => ⟨_, rfl, rfl, rfl, a, _, y, rfl, h3, lk1 _ _, .inl ⟨y, _, rfl, dp_same s1 _ _ hdp, hsh.1, hsh.2.1, hsh.2.2, (by show 1 ≤ sizeLine; decide), fun l hl => q _ l (s1.trans (same_upd hl)) (s1.free hl) upd_same⟩⟩, fun z => nomatch z⟩⟩⟩
      · have e9 : PyData.shown (.dict []) = ("{}" : Str) := by decide +kernel
        rw [e9] at q
        exact .inl ⟨_, hv.ty, .inr ⟨"dict", rfl, fill_dict⟩, r, _, ds, rfl, row, .inr ⟨_, hv, rfl, fun a H' h1 s1 h3 => ⟨true, TS.te, fun _ b hb2 => ⟨_, rfl, rfl, rfl, a, _, _, rfl, h3, lk1 _ _, .inr ⟨ae, rfl, s1 _ _ hae, (by show 1 ≤ sizeLine; decide), fun l hl => q _ l (s1.trans (same_upd hl)) (s1.free hl) upd_same⟩⟩, fun z => nomatch z⟩⟩⟩
end
end K12

namespace K12
open PySem PySem.Spec PyProof.Rows StX L2 TL GG OO
theorem mv_cases {d : PyData} (h : isMoveP d = true) : (∃ z, d = .tuple [.str z] ∧ z ∈ (["come", "step"] : List Str)) ∨ (∃ n, d = .tuple [.str "go", .int n]) ∨ ∃ z y, d = .tuple [.str z, .str y] ∧ z ∈ (["begin", "run"] : List Str) := by
  match d, h with
  | .tuple [.str z], h =>
    obtain ⟨w, hw, e⟩ := List.any_eq_true.mp (show (["come", "step"] : List Str).any (· == z) = true from h)
    exact .inl ⟨z, rfl, by rw [← beq_iff_eq.mp e]; exact hw⟩
  | .tuple [.str z, x], h =>
    by_cases hz : z = "go"
    · have h : isIntP 0 13 x = true := by
        have e : isMoveP (.tuple [.str z, x]) = isIntP 0 13 x := if_pos hz
        rw [e] at h
        exact h
      subst hz
      cases x with
      | int n => exact .inr (.inl ⟨n, rfl⟩)
      | _ => cases h
    · have e : isMoveP (.tuple [.str z, x]) = ((["begin", "run"] : List Str).any (· == z) && isNameP x) := if_neg hz
      rw [e, Bool.and_eq_true_iff] at h
      obtain ⟨w, hw, e2⟩ := List.any_eq_true.mp h.1
      cases x with
      | str y => exact .inr (.inr ⟨z, y, rfl, by rw [← beq_iff_eq.mp e2]; exact hw⟩)
      | _ => exact (by have h3 := h.2; cases h3)
theorem mv_plain {d : PyData} (h : isMoveP d = true) : d.plain = true := by
  rcases mv_cases h with ⟨z, rfl, _⟩ | ⟨n, rfl⟩ | ⟨z, y, rfl, _⟩ <;> rfl
theorem mv_plainAll : ∀ {ds : List PyData}, (∀ d ∈ ds, isMoveP d = true) → PyData.plainAll ds = true
  | [], _ => rfl
  | d :: ds, h => by
    have h1 := mv_plain (h d List.mem_cons_self)
    have h2 := mv_plainAll (ds := ds) fun e he => h e (List.mem_cons_of_mem _ he)
    unfold PyData.plainAll
    rw [h1, h2]
    rfl
theorem eqv_come {d : PyData} (h : isMoveP d = true) : PyData.eqv d (.tuple [.str "come"]) = decide (headW d = "come") := by
  rcases mv_cases h with ⟨z, rfl, _⟩ | ⟨n, rfl⟩ | ⟨z, y, rfl, hz⟩
  · have e1 := eqv_strs [z] ["come"]
    have e2 : PyData.eqv (.tuple [.str z]) (.tuple [.str "come"]) = PyData.eqvAll ([z].map PyData.str) ([("come" : Str)].map PyData.str) := rfl
    rw [Bool.eq_iff_iff, e2, e1, decide_eq_true_eq]
    exact ⟨fun q => (List.cons.inj q).1, fun q => by rw [show z = "come" from q]⟩
  · have e2 : PyData.eqv (.tuple [.str "go", .int n]) (.tuple [.str "come"]) = PyData.eqvAll [.str "go", .int n] [.str "come"] := rfl
    rw [e2]
    rw [decide_eq_false (show ¬ headW (.tuple [.str "go", .int n]) = "come" by show ¬ ("go" : Str) = "come"; decide +kernel)]
    simp [PyData.eqvAll]
  · have e2 : PyData.eqv (.tuple [.str z, .str y]) (.tuple [.str "come"]) = PyData.eqvAll [.str z, .str y] [.str "come"] := rfl
    rw [e2]
    rw [decide_eq_false (show ¬ headW (.tuple [.str z, .str y]) = "come" by
      show ¬ z = "come"
      simp only [List.mem_cons, List.not_mem_nil, or_false] at hz
      rcases hz with rfl | rfl <;> decide +kernel)]
    simp [PyData.eqvAll]
theorem comes_eq {ds : List PyData} (h : ∀ d ∈ ds, isMoveP d = true) : comes ds = ds.countP fun z => PyData.eqv z (.tuple [.str "come"]) := by
  unfold comes
  exact List.countP_congr fun d hd => by rw [eqv_come (h d hd)]
/-- the class Run, by the promises of its methods -/
structure RunM (P : Program) (w : World) (K : PySem.W.Frag) (mg : Str → Option Value) (base : Heap) (C N S : Addr) : Prop where
  ct : ClT K mg C
  ty : TyC K C
  far : Far K C
  ne : PySem.W.findIn K (.ref C) "__ne__" = some (some (.builtin "object.__ne__"))
  hands : ∃ (pp fP : Addr) (fdP : FuncData), PropOf K C "hands" pp fP ∧ Binds K fdP ["self"] [] ∧ FnOk P w K mg base CX0 1 fP fdP ["self"] (spHands K C)
  listed : ∃ (fL : Addr) (fdL : FuncData), Meth K C "listed" fL ∧ Binds K fdL ["self"] [] ∧ FnOk P w K mg base CX0 1 fL fdL ["self"] (spListed K C)
  len : ∃ g, PySem.W.findIn K (.ref C) "__len__" = some (some (.ref g)) ∧ PySem.W.isFn K (.ref g) = true ∧ FnR P w K mg base CX0 1 g (spLenR K C)
  ix : ∃ g, PySem.W.findIn K (.ref C) "__getitem__" = some (some (.ref g)) ∧ PySem.W.fnIn K g = true ∧ PySem.W.isFn K (.ref g) = true ∧ FnR P w K mg base (L2.CX P w) 3 g (spIxR K C N)
  in_ : ∃ g, PySem.W.findIn K (.ref C) "__contains__" = some (some (.ref g)) ∧ PySem.W.isFn K (.ref g) = true ∧ FnR P w K mg base CX0 3 g (spInR K C)
  eq : ∃ g, PySem.W.findIn K (.ref C) "__eq__" = some (some (.ref g)) ∧ PySem.W.isFn K (.ref g) = true ∧ FnR P w K mg base CX0 1 g (spEqR K C)
  add : ∃ gl gr gi, AddC K C gl gr gi ∧ FnR P w K mg base (L2.CX P w) 6 gl (spAdd K C S false) ∧ FnR P w K mg base (L2.CX P w) 6 gr (spAdd K C S true) ∧ FnR P w K mg base (L2.CX P w) 6 gi (spAdd K C S false)
  mk_ : ∃ fI, Mk K C fI ∧ FnR P w K mg base (L2.CX P w) 4 fI (spStar 1 (spRunI K C S))
  of_ : ∃ (mc : Value) (sm fO : Addr), ClX.CRead K C mc ∧ SMet K C mc "of" sm fO ∧ FnR P w K mg base (L2.CX P w) 6 fO (spOf K C S)
theorem odd_ok {K : PySem.W.Frag} {n : Nat} (h9 : n ≤ 30) {v : V} (hv : v ∈ [V.int (-1), .int (n : Int), .non, .bl true, .str "0"]) :
    (∀ H', NoIx K H' v ((n : Int) - 1)) ∧ ∃ z, reprV v = some z ∧ okD (.str z) = true ∧ (∀ i, v = .int i → i.natAbs.log2 < 1920) ∧ ∀ y, v = .str y → (reprText y).length ≤ sizeLine := by
  simp only [List.mem_cons, List.not_mem_nil, or_false] at hv
  rcases hv with rfl | rfl | rfl | rfl | rfl
  · refine ⟨fun _ => .inl ⟨-1, rfl, ?_⟩, _, rfl, by decide +kernel, fun i hi => ?_, fun y hy => nomatch hy⟩
    · unfold isInt
      rw [decide_eq_false (by decide)]
      rfl
    · cases hi
      decide
  · refine ⟨fun _ => .inl ⟨_, rfl, ?_⟩, _, rfl, ?_, fun i hi => ?_, fun y hy => nomatch hy⟩
    · unfold isInt
      rw [decide_eq_false (p := ((n : Int) ≤ (n : Int) - 1)) (by omega), Bool.and_false]
    · have := (by decide +kernel : ∀ n : Nat, n < 31 → okD (.str (toString (n : Int))) = true)
      exact this n (by omega)
    · cases hi
      have := (by decide +kernel : ∀ n : Nat, n < 31 → (n : Int).natAbs.log2 < 1920)
      exact this n (by omega)
  · exact ⟨fun _ => .inr ⟨"NoneType", .base .non, .inl (by decide +kernel)⟩, _, rfl, by decide +kernel, fun i hi => (nomatch hi), fun y hy => (nomatch hy)⟩
  · exact ⟨fun _ => .inr ⟨"bool", .base (.bl true), .inr ⟨by decide +kernel, by decide +kernel⟩⟩, _, rfl, by decide +kernel, fun i hi => (nomatch hi), fun y hy => (nomatch hy)⟩
  · refine ⟨fun _ => .inr ⟨"str", .base (.str "0"), .inl (by decide +kernel)⟩, _, rfl, by decide +kernel, fun i hi => (nomatch hi), fun y hy => ?_⟩
    cases hy
    decide +kernel
theorem no_things : isMoveP .none = false ∧ isMoveP (.tuple [.str "go"]) = false ∧ isMoveP (.list [.str "come"]) = false ∧ isMoveP (.tuple [.str "come", .int 1]) = false ∧ isMoveP (.str "come") = false ∧ isMoveP (.tuple [.str "go", .bool true]) = false := by decide +kernel
def spIRef (K : PySem.W.Frag) (C : Addr) : Sp := fun vs H Q _ => ∃ (r : Addr) (v : V) (z : Str) (ds : List PyData), vs = [.ref r, v] ∧ RunI K C H r ds ∧ (∀ H', NoIx K H' v ((ds.length : Int) - 1)) ∧ reprV v = some z ∧ (∀ i, v = .int i → i.natAbs.log2 < 1920) ∧ (∀ y, v = .str y → (reprText y).length ≤ sizeLine) ∧ ∀ H', Same H H' → Q (.bl true) H'
def spBasic (K : PySem.W.Frag) (C : Addr) : Sp := fun vs H Q _ => ∃ (r : Addr) (x : V) (ds : List PyData), vs = [.ref r, x] ∧ RunI K C H r ds ∧ Val K H x (.tuple ds) ∧ ds.length ≤ 30 ∧ (∀ d ∈ ds, isMoveP d = true) ∧ ∀ H', Same H H' → Q (.bl true) H'
section
variable {P : Program} {w : World} {K : PySem.W.Frag} {mg : Str → Option Value} {base : Heap} {lt0 lt1 : Tok} {C S fS N fN : Addr}
theorem sc_l_index_refused : FnScope ["_law_run", "_law_index", "_law_found", "e"] ["_law_run", "_law_index"] (defScope s_l_index_refused) := ⟨rfl, rfl, rfl, by decide +kernel, rfl, by decide +kernel, by decide +kernel⟩
theorem ok_l_iref {f : Addr} {fd : FuncData} (F : Fun K "_law_index_refused" "_law_index_refused" s_l_index_refused f fd) (T : Txt K mg lt0 lt1) (M : RunM P w K mg base C N S) (TN : ExT K mg "InvalidNumber" "value" N fN) : FnOk P w K mg base CX0 5 f fd ["_law_run", "_law_index"] (spIRef K C) := by
  refine F.ok sc_l_index_refused (fun vs H Q E h => ?_) (fun cdv A outer s H vs Q E hr h => ?_)
  · obtain ⟨r, v, z, ds, rfl, _⟩ := h
    rfl
  · obtain ⟨r, v, z, ds, rfl, row, hno, hz, hi, hs, q⟩ := h
    obtain ⟨g, g1, g2, g3, RG⟩ := M.ix
    refine ⟨_, (pss_cons (ps_try_as (i := 3) (tb := _) (ts := _) (Wout := fun _ _ _ _ => False) rfl rfl sc_l_index_refused.nd rfl rfl ⟨rfl, by decide, .inl TN.g⟩ takes0
      (fun W pn xe tk _ => pss_one (ps_set (i := 2) sc_l_index_refused.nd rfl (.inl rfl) (by exact (pe_ixO (E := WE W) RG hr (fun σ => passAt tk σ) (pv 0) (pv 1) g1 g2 g3))))
      (fun a oe cls d pn hzc hf => (pss_one (ps_ret (pe_cmpR op_eq (by exact (pe_callB call_reprF (by rfl) T.m_repr (by decide +kernel) (by exact (pa_cons (pe_xf TN.x TN.no hzc hf (pv 3)) pa_nil)))) (by exact (pe_callB call_reprF (by rfl) T.m_repr (by decide +kernel) (by exact (pa_cons (pv 1) pa_nil)))) (nomark _))))))
      (pss_one (ps_ret (pe_cmpR (op_eqD hr.units) (pv 2) (pe_lst (pa_cons pe_str pa_nil)) (nomark _))))), ?_⟩
    obtain ⟨dx, p, h1, h2⟩ := id row
    refine ⟨_, rfl, _, rfl, r, dx, _, rfl, h1, r, v, ds, rfl, row, .inr ⟨hno H, fun d H' hd s1 he => ?_⟩⟩
    refine ⟨true, TN.te, fun _ b hb => ⟨_, rfl, rfl, rfl, d, _, v, rfl, he, lk1 _ _, v, z, rfl, hz, hi, hs, _, rfl, v, z, rfl, hz, hi, hs, rfl, ?_⟩, fun z => nomatch z⟩
    rw [decide_eq_true rfl]
    exact q H' s1
theorem sc_l_basic : FnScope ["_law_run", "_law_some", "_law_at", "_law_thing"] ["_law_run", "_law_some"] (defScope s_l_basic) := ⟨rfl, rfl, rfl, by decide +kernel, rfl, by decide +kernel, by decide +kernel⟩
theorem ok_l_basic {f : Addr} {fd : FuncData} (F : Fun K "_law_basic" "_law_basic" s_l_basic f fd) (T : Txt K mg lt0 lt1) (M : RunM P w K mg base C N S) {f1 : Addr} {fd1 : FuncData} (F_l_index_refused : Fun K "_law_index_refused" "_law_index_refused" s_l_index_refused f1 fd1) (b_l_index_refused : Binds K fd1 ["_law_run", "_law_index"] []) (g_l_index_refused : mg "_law_index_refused" = some (.ref f1)) (G_l_index_refused : FnOk P w K mg base CX0 5 f1 fd1 ["_law_run", "_law_index"] (spIRef K C)) : FnOk P w K mg base CX0 6 f fd ["_law_run", "_law_some"] (spBasic K C) := by
  refine F.ok sc_l_basic (fun vs H Q E h => ?_) (fun cdv A outer s H vs Q E hr h => ?_)
  · obtain ⟨r, x, ds, rfl, _⟩ := h
    rfl
  · obtain ⟨r, x, ds, rfl, row, hv, h20, hck, q⟩ := h
    obtain ⟨gI, i1, i2, i3, RI⟩ := M.ix
    obtain ⟨gN, n1, n3, RN⟩ := M.in_
    obtain ⟨gE, e1, e3, RE⟩ := M.len
    obtain ⟨pp, fP, fdP, PP, bP, GP⟩ := M.hands
    obtain ⟨fL, fdL, ML, bL, GL⟩ := M.listed
    have hr1 : Room 1 _ := hr.mono (by decide)
    have hr2 : Room 2 _ := hr.mono (by decide)
    have hr3 : Room 3 _ := hr.mono (by decide)
    have hr4 : Room 4 _ := hr.mono (by decide)
    have hu65 := room65x hr
    refine ⟨_, (pss_cons (ps_if (PW.pt (pw_or (pt_cmpR op_ne (pe_callB (call_lenO RE hr2 pass0 e1 e3) (by rfl) T.m_len PySem.boot_len (pa_cons (pv 0) pa_nil)) (pe_callB call_len_seq (by rfl) T.m_len PySem.boot_len (pa_cons (pv 1) pa_nil)) (nomark _)) (pw_or (pt_cmpR (op_neD hr.units) (pe_meth0 (pv 0) M.ct.cl ML GL hr1 bL .nil pass0) (pe_callTy call_list_of (by rfl) T.m_list (by decide +kernel) (pa_cons (pv 1) pa_nil)) (nomark _)) (pw_or1 (pt_cmpR op_ne (pe_prop (pv 0) M.ct.cl PP GP hr2 bP .nil pass0 (by rfl)) (pe_bm PySem.F.plainAttrs_list PySem.F.slot_list_count PySem.F.type_list_count (mt_countD hu65) (pe_callTy call_list_of (by rfl) T.m_list (by decide +kernel) (pa_cons (pv 1) pa_nil)) (pa_cons (pe_tup (pa_cons pe_str pa_nil)) pa_nil)) (nomark _))))))
      (pss_one (ps_ret pe_bl)) pss_nil)
    (pss_cons (ps_for PassesOwn.never rfl (pi_range1 rfl T.m_range (pa_cons (pe_callB call_len_seq (by rfl) T.m_len PySem.boot_len (pa_cons (pv 1) pa_nil)) pa_nil)) (pg_name (i := 2) sc_l_basic.nd rfl (.inl rfl))
      (pss_one (ps_if (PW.pt (pw_or (pt_cmpR (op_neD hr.units) (pe_ixO (E := fun _ => E0) RI hr4 (pat passL) (pv 0) (pv 2) i1 i2 i3) (pe_ix ix_tup (pv 1) (pv 2) (fun _ _ => rfl)) (nomark _)) (pw_or1 (pt_cmpR (op_notInO RN hr3 n1 n3) (pe_ix ix_tup (pv 1) (pv 2) (fun _ _ => rfl)) (pv 0) (by rfl)))))
        (pss_one (ps_ret pe_bl)) pss_nil)))
    (pss_cons (ps_for PassesOwn.never rfl (pi_list (pe_lst (pa_cons pe_non (pa_cons (pe_tup (pa_cons pe_str pa_nil)) (pa_cons (pe_lst (pa_cons pe_str pa_nil)) (pa_cons (pe_tup (pa_cons pe_str (pa_cons pe_int pa_nil))) (pa_cons pe_str (pa_cons (pe_tup (pa_cons pe_str (pa_cons pe_bl pa_nil))) pa_nil)))))))) (pg_name (i := 3) sc_l_basic.nd rfl (.inl rfl))
      (pss_one (ps_if (pt_cmpR (op_inO RN hr3 n1 n3) (pv 3) (pv 0) (by rfl))
        (pss_one (ps_ret pe_bl)) pss_nil)))
    (pss_one (ps_ret (pe_cmpR (op_eqD hr.units) (pe_lc (own := [("_law_thing", 3)]) (g := gName 3) rfl sc_l_basic.nd (pi_list (pe_lst (pa_cons (pe_un un_neg pe_int) (pa_cons (pe_callB call_len_seq (by rfl) T.m_len PySem.boot_len (pa_cons (pv 1) pa_nil)) (pa_cons pe_non (pa_cons pe_bl (pa_cons pe_str pa_nil))))))) (blkOk_by (N := ["_law_run", "_law_some", "_law_at", "_law_thing"]) (sc := defScope s_l_basic) (by decide +kernel)) (fun _ _ _ _ _ => pg_name (i := 3) sc_l_basic.nd rfl (.inl rfl)) (fun _ _ _ _ _ => (pts_one (pt_not (pt_val (pe_call G_l_index_refused (hr.mono (by decide)) (by rfl) g_l_index_refused F_l_index_refused.kp b_l_index_refused .nil pass0 (pa_cons (pv 0) (pa_cons (pv 3) pa_nil))))))) (fun _ _ _ _ _ => (pv 3))) (pe_lst pa_nil) (nomark _))))))), ?_⟩
    obtain ⟨b, xs, rfl, hs, ha, hl, h1000, hget⟩ := hv.tup
    obtain ⟨dx, p, h1, h3⟩ := id row
    have hgood := hv.dp.2
    have hlay := hgood.lay (by decide)
    have hlayL : SeqAt.shaped (.list ds) = true := hlay
    have self_eq : ∀ d, SeqAt.shaped d = true → PyData.eqv d d = true := fun d h => SeqAt.eqv_refl _ (SeqAt.canLay_of_shaped h)
    have h1000' := (GG.Good.tup (n := 59)).mp hgood
    refine ⟨_, rfl, r, dx, _, rfl, h1, r, ds, rfl, row, ds.length, rfl, by omega, _, rfl, b, xs, rfl, .inr hs, rfl, _, rfl, iteB (c := false) (by rw [hl, decide_eq_true rfl]; rfl) (iteF ?_)⟩
    refine ⟨_, rfl, r, dx, _, rfl, h1, runF_no _ (by decide +kernel), r, ds, rfl, row, fun H1 l1 ys s1 n1 hy hdy => ?_⟩
    refine ⟨_, rfl, b, xs, rfl, .inr (Same.seqT s1 hs), fun l2 hl2 => ?_⟩
    have s2 := same_upd (o := .lst xs) hl2
    refine ⟨.list ds, .list ds, .lst (.inl (.inl (s2 _ _ hy))) (dpAll_same s2 _ _ hdy), .lst (.inl (.inl upd_same)) (dpAll_same (s1.trans s2) _ _ ha), hlayL, hlayL, _, rfl, iteB (c := false) (by rw [self_eq _ hlayL]; rfl) (iteF ?_)⟩
    have t2 := s1.trans s2
    generalize upd H1 l2 (.lst xs) = H2 at t2
    refine ⟨_, rfl, r, dx, _, rfl, t2 _ _ h1, r, ds, rfl, row.same t2, hck, fun H3 s3 => ?_⟩
    have t3 := t2.trans s3
    refine ⟨_, rfl, b, xs, rfl, .inr (Same.seqT t3 hs), fun l4 hl4 => ?_⟩
    have s4 := same_upd (o := .lst xs) hl4
    refine ⟨.inl ⟨rfl, _, .inl (.inl upd_same)⟩, (by show 1 ≤ sizeLine; decide), fun u5 hu5 => ?_⟩
    have s5 := same_upd (o := .tup [V.str "come"]) hu5
    have t5 := t3.trans (s4.trans s5)
    refine ⟨l4, ds, .ref u5, .tuple [.str "come"], rfl, rfl, .lst (.inl (.inl (s5 _ _ upd_same))) (dpAll_same t5 _ _ ha), .tup (.inl (.inl upd_same)) (.cons (.str _) .nil), mv_plainAll hck, rfl, (by decide +kernel), rfl, _, rfl, iteB (c := false) (by rw [← comes_eq hck, decide_eq_true rfl]; rfl) (iteF ?_)⟩
    generalize upd (upd H3 l4 (.lst xs)) u5 (.tup [V.str "come"]) = H5 at t5
    refine ⟨_, rfl, b, xs, rfl, .inr (Same.seqT t5 hs), _, rfl, by omega, by omega, for_range (lo := 0) (fun i σ H' => Same H H' ∧ ∃ y2 y3 : Option V, σ = [some (.ref r), some (.ref b), y2, y3]) ⟨t5, _, _, rfl⟩ ?_ ?_⟩
    · rintro i σ H1 hi ⟨s1, y2, y3, rfl⟩
      have hin : i < ds.length := by
        rw [hl] at hi
        omega
      have e0 : (0 : Int) + (i : Int) = (i : Int) := by omega
      rw [e0]
      have hd : ds[i]? = some ds[i] := List.getElem?_eq_getElem hin
      obtain ⟨v0, hx0, hv0⟩ := hget i _ hd
      have hv1 := hv0.same s1
      have hgi := h1000'.2 _ (List.mem_of_getElem? hd)
      have hgl := hgi.lay (by decide)
      refine ⟨_, rfl, _, rfl, r, dx, _, rfl, s1 _ _ h1, r, .int (i : Nat), ds, rfl, row.same s1, .inl ⟨i, ds[i], rfl, hd, fun v hvv => ?_⟩⟩
      have dpv := hvv.dp1 (GG.okD_dict hgi.1)
      have dpv0 := hv1.dp1 (GG.okD_dict hgi.1)
      refine ⟨_, rfl, _, rfl, b, xs, _, _, rfl, rfl, Same.seqT s1 hs, atI_nat hx0, ds[i], ds[i], dpv, dpv0, hgl, hgl, _, rfl, iteB (c := false) (by rw [self_eq _ hgl]; rfl) (iteF ?_)⟩
      refine ⟨_, rfl, _, rfl, b, xs, _, _, rfl, rfl, Same.seqT s1 hs, atI_nat hx0, _, rfl, r, dx, _, rfl, s1 _ _ h1, r, v0, ds[i], ds, rfl, row.same s1, hv1, fun H2 s2 => ⟨_, rfl, _, rfl, iteB (c := false) ?_ (iteF ⟨s1.trans s2, _, _, rfl⟩)⟩⟩
      have ein : inB ds ds[i] = true := by
        unfold inB
        rw [hck _ (List.mem_of_getElem? hd), Bool.true_and]
        exact List.any_eq_true.mpr ⟨_, List.mem_of_getElem? hd, self_eq _ hgl⟩
      show (!inB ds ds[i]) = false
      rw [ein]
      rfl
    · rintro σ H1 ⟨s1, y2, y3, rfl⟩
      refine ⟨(by show 1 ≤ sizeLine; decide), fun u1 hu1 => ⟨(by show 1 ≤ sizeLine; decide), fun l1 hl1 => ⟨(by show 2 ≤ sizeLine; decide), fun u2 hu2 => ⟨(by show 2 ≤ sizeLine; decide), fun u3 hu3 => ⟨(by show 6 ≤ sizeLine; decide), fun l4 hl4 => ?_⟩⟩⟩⟩⟩
      have a1 := same_upd (o := .tup [V.str "go"]) hu1
      have a2 := same_upd (o := .lst [V.str "come"]) hl1
      have a3 := same_upd (o := .tup [V.str "come", .int 1]) hu2
      have a4 := same_upd (o := .tup [V.str "go", .bl true]) hu3
      have a5 := same_upd (o := .lst [V.non, .ref u1, .ref l1, .ref u2, .str "come", .ref u3]) hl4
      have t4 := a4.trans a5
      have t3 := a3.trans t4
      have t2 := a2.trans t3
      have t1 := a1.trans t2
      obtain ⟨c1, c2, c3, c4, c5, c6⟩ := no_things
      have gd : ∀ d, okD d = true → PyData.depth d ≤ 60 → GG.Good 60 d := fun d h1 h2 => ⟨h1, h2⟩
      have hth : ∀ v ∈ [V.non, .ref u1, .ref l1, .ref u2, .str "come", .ref u3], ∃ d, Val K (upd (upd (upd (upd (upd H1 u1 (.tup [V.str "go"])) l1 (.lst [V.str "come"])) u2 (.tup [V.str "come", .int 1])) u3 (.tup [V.str "go", .bl true])) l4 (.lst [V.non, .ref u1, .ref l1, .ref u2, .str "come", .ref u3])) v d ∧ isMoveP d = false := fun v hv9 => by
        simp only [List.mem_cons, List.not_mem_nil, or_false] at hv9
        rcases hv9 with rfl | rfl | rfl | rfl | rfl | rfl
        · exact ⟨.none, .inl ⟨.non, gd _ (by decide +kernel) (by decide +kernel)⟩, c1⟩
        · exact ⟨.tuple [.str "go"], .inl ⟨.tup (.inl (.inl (t2 _ _ upd_same))) (.cons (.str _) .nil), gd _ (by decide +kernel) (by decide +kernel)⟩, c2⟩
        · exact ⟨.list [.str "come"], .inl ⟨.lst (.inl (.inl (t3 _ _ upd_same))) (.cons (.str _) .nil), gd _ (by decide +kernel) (by decide +kernel)⟩, c3⟩
        · exact ⟨.tuple [.str "come", .int 1], .inl ⟨.tup (.inl (.inl (t4 _ _ upd_same))) (.cons (.str _) (.cons (.int _) .nil)), gd _ (by decide +kernel) (by decide +kernel)⟩, c4⟩
        · exact ⟨.str "come", .inl ⟨.str "come", gd _ (by decide +kernel) (by decide +kernel)⟩, c5⟩
        · exact ⟨.tuple [.str "go", .bool true], .inl ⟨.tup (.inl (.inl (a5 _ _ upd_same))) (.cons (.str _) (.cons (.bl _) .nil)), gd _ (by decide +kernel) (by decide +kernel)⟩, c6⟩
      have tH := s1.trans t1
      have hl4' : (upd (upd (upd (upd (upd H1 u1 (.tup [V.str "go"])) l1 (.lst [V.str "come"])) u2 (.tup [V.str "come", .int 1])) u3 (.tup [V.str "go", .bl true])) l4 (.lst [V.non, .ref u1, .ref l1, .ref u2, .str "come", .ref u3])) l4 = some (.lst [V.non, .ref u1, .ref l1, .ref u2, .str "come", .ref u3]) := upd_same
      refine ⟨l4, rfl, ⟨_, .inl (.inl hl4')⟩, ?_⟩
      generalize upd (upd (upd (upd (upd H1 u1 (.tup [V.str "go"])) l1 (.lst [V.str "come"])) u2 (.tup [V.str "come", .int 1])) u3 (.tup [V.str "go", .bl true])) l4 (.lst [V.non, .ref u1, .ref l1, .ref u2, .str "come", .ref u3]) = H3 at hth tH hl4' ⊢
      refine for_it (walk_list (xs := [V.non, .ref u1, .ref l1, .ref u2, .str "come", .ref u3])) (fun i σ H' => Same H3 H' ∧ ∃ y2 y3 : Option V, σ = [some (.ref r), some (.ref b), y2, y3]) ⟨Same.refl _, _, _, rfl⟩ (fun i σ H' _ h => .inl (.inl (h.1 _ _ hl4'))) ?_ ?_
      · rintro i x σ _ H4 hi ⟨s4, y2, y3, rfl⟩ ⟨rfl, hx⟩
        obtain ⟨d, hvd, hcd⟩ := hth x (List.mem_of_getElem? hx)
        refine ⟨_, rfl, _, rfl, r, dx, _, rfl, (tH.trans s4) _ _ h1, r, x, d, ds, rfl, row.same (tH.trans s4), hvd.same s4, fun H5 s5 => ⟨_, rfl, _, rfl, iteB (c := false) ?_ (iteF ⟨s4.trans s5, _, _, rfl⟩)⟩⟩
        show inB ds d = false
        unfold inB
        rw [hcd]
        rfl
      · rintro σ H4 ⟨s4, y2, y3, rfl⟩
        have t4 := tH.trans s4
        refine ⟨_, rfl, _, rfl, b, xs, rfl, .inr (Same.seqT t4 hs), (by show 5 ≤ sizeLine; decide), fun lo hlo => ?_⟩
        have t6 := t4.trans (same_upd (o := .lst [V.int (-1), .int (xs.length : Int), .non, .bl true, .str "0"]) hlo)
        have elo : (upd H4 lo (.lst [V.int (-1), .int (xs.length : Int), .non, .bl true, .str "0"])) lo = some (.lst [V.int (-1), .int (xs.length : Int), .non, .bl true, .str "0"]) := upd_same
        refine ⟨lo, rfl, ⟨_, .inl (.inl elo)⟩, ?_⟩
        generalize upd H4 lo (.lst [V.int (-1), .int (xs.length : Int), .non, .bl true, .str "0"]) = H5 at t6 elo ⊢
        refine fun D hD => lc_it (walk_list (xs := [V.int (-1), .int (xs.length : Int), .non, .bl true, .str "0"])) (fun j H' => Same H5 H' ∧ H' D = some (.lst [])) ⟨same_upd hD, upd_same⟩ (fun j H' _ h => .inl (.inl (h.1 _ _ elo))) ?_ ?_
        · rintro j x _ H6 hj ⟨s6, e6⟩ ⟨rfl, hx⟩
          have hm := List.mem_of_getElem? hx
          rw [hl] at hm
          obtain ⟨o1, z, o2, o3, o4, o5⟩ := odd_ok (K := K) h20 hm
          refine ⟨rfl, _, rfl, _, rfl, r, x, z, ds, rfl, row.same (t6.trans s6), o1, o2, o4, o5, fun H7 s7 => ⟨_, rfl, iteF ⟨s6.trans s7, s7 _ _ e6⟩⟩⟩
        · rintro H6 ⟨s6, e6⟩
          refine ⟨Nat.zero_le _, fun l9 hl9 => ⟨.list [], .list [], .lst (.inl (.inl ((same_upd hl9) _ _ e6))) .nil, .lst (.inl (.inl upd_same)) .nil, by decide +kernel, by decide +kernel, ?_⟩⟩
          exact q _ ((t6.trans s6).trans (same_upd hl9))
end
end K12

namespace K12
open PySem PySem.Spec PyProof.Rows StX L2 TL GG OO
theorem no_bad {ds : List PyData} {i : Nat} (h : ∀ d ∈ ds, isMoveP d = true) (b : BadAt ds i) : False := by
  obtain ⟨⟨d, hd, hm⟩, _⟩ := b
  rw [h d (List.mem_of_getElem? hd)] at hm
  cases hm
section
variable {K : PySem.W.Frag} {C S : Addr} {mg : Str → Option Value}
theorem cat0 {H : Hp} {v u : V} {ds es : List PyData} {Q : VK} (hv : Dp K H v (.tuple ds)) (hu : Dp K H u (.tuple es)) (hl : ds.length + es.length ≤ 1000) (hq : ∀ x H', Same H H' → Dp K H' x (.tuple (ds ++ es)) → Q x H') : rCatA K v u H Q := by
  cases hv with
  | @tup a xs _ hs ha =>
    cases hu with
    | @tup b ys _ ht hb =>
      have l1 := dpAll_len ha
      have l2 := dpAll_len hb
      refine ⟨a, b, xs, ys, rfl, rfl, hs, ht, Nat.le_of_lt (small1000 (by omega)), fun e => ?_, fun _ e => ?_, fun _ _ t nt => ?_⟩
      · have e2 : ds = [] := List.eq_nil_of_length_eq_zero (by rw [← l1, e]; rfl)
        have := hq (.ref b) H (Same.refl H)
        rw [e2] at this
        exact this (.tup ht hb)
      · have e2 : es = [] := List.eq_nil_of_length_eq_zero (by rw [← l2, e]; rfl)
        have := hq (.ref a) H (Same.refl H)
        rw [e2, List.append_nil] at this
        exact this (.tup hs ha)
      · exact hq _ _ (same_upd nt) (.tup (.inl (.inl upd_same)) (dpAll_same (same_upd nt) _ _ (dpAll_app ha hb)))
theorem OtherAt.ty {H : Hp} {y : V} {es : List PyData} (h : OtherAt K C H y es) (cl : Cls K C) (t : TyC K C) : ∃ t, TyX K H y t ∧ (t = .ref C ∨ NoAdd t) := by
  rcases h with ⟨r, rfl, row⟩ | ⟨d, hv, e⟩
  · exact ⟨_, row.ty cl t, .inl rfl⟩
  · cases d with
    | tuple z => exact ⟨_, hv.ty, .inr ⟨"tuple", rfl, fill_tup⟩⟩
    | list z => exact ⟨_, hv.ty, .inr ⟨"list", rfl, fill_lst⟩⟩
    | _ => cases e
theorem addL_go {H : Hp} {r : Addr} {y : V} {ds es : List PyData} {Q : VK} {E : XK} (ct : Cls K C) (tc : TyC K C) (row : RunI K C H r ds) (hO : OtherAt K C H y es) (hl : ds.length + es.length ≤ 1000) (ok : ∀ d ∈ ds ++ es, isMoveP d = true) (q : ∀ H' r', Same H H' → H r' = none → RunI K C H' r' (ds ++ es) → Q (.ref r') H') :
    ∃ (p dx : Addr) (fs : List (Str × V)), V.ref r = .ref p ∧ H p = some (.ins C dx fs) ∧ ((∃ t, TyX K H y t ∧ (t = .ref C ∨ NoAdd t) ∧ spAdd K C S false [.ref p, y] H (fun v H3 => (∃ q, v = .ref q) ∧ Q v H3) E) ∨ (TyX K H y (.type "int") ∧ spAdd K C S false [.ref p, y] H (fun _ _ => False) E)) := by
  obtain ⟨t, ty, ht⟩ := hO.ty ct tc
  obtain ⟨dx, p, h1, h2⟩ := id row
  exact ⟨r, dx, _, rfl, h1, .inl ⟨t, ty, ht, r, y, ds, rfl, row, .inl ⟨es, hO, hl, fun _ H' r' s n row' => ⟨⟨r', rfl⟩, q H' r' s n row'⟩, fun i v d hb => (no_bad ok hb).elim⟩⟩⟩
theorem addR_go {H : Hp} {r : Addr} {y : V} {d : PyData} {ds es : List PyData} {Q : VK} {E : XK} (row : RunI K C H r es) (hv : Val K H y d) (e : rowOf d = some ds) (hl : es.length + ds.length ≤ 1000) (ok : ∀ d ∈ ds ++ es, isMoveP d = true) (q : ∀ H' r', Same H H' → H r' = none → RunI K C H' r' (ds ++ es) → Q (.ref r') H') :
    ∃ (p dx : Addr) (fs : List (Str × V)) (t : Value), V.ref r = .ref p ∧ H p = some (.ins C dx fs) ∧ TyX K H y t ∧ NoAdd t ∧ spAdd K C S true [.ref p, y] H (fun v H3 => (∃ q, v = .ref q) ∧ Q v H3) E := by
  have ht : NoAdd (.type (tyName d)) := by
    cases d with
    | tuple z => exact ⟨"tuple", rfl, fill_tup⟩
    | list z => exact ⟨"list", rfl, fill_lst⟩
    | _ => cases e
  obtain ⟨dx, p, h1, h2⟩ := id row
  exact ⟨r, dx, _, _, rfl, h1, hv.ty, ht, r, y, es, rfl, row, .inl ⟨ds, .inr ⟨d, hv, e⟩, hl, fun _ H' r' s n row' => ⟨⟨r', rfl⟩, q H' r' s n row'⟩, fun i v d hb => (no_bad ok hb).elim⟩⟩
end
theorem not_self {K : PySem.W.Frag} {C : Addr} : PySem.W.notFirst K C (.ref C) = true := by
  unfold PySem.W.notFirst
  simp
def spBoth (K : PySem.W.Frag) : Sp := fun vs H Q _ => ∃ (x y : V) (ds es : List PyData), vs = [x, y] ∧ Val K H x (.tuple ds) ∧ Val K H y (.tuple es) ∧ ds.length ≤ 12 ∧ es.length ≤ 12 ∧ (∀ d ∈ ds, isMoveP d = true) ∧ (∀ d ∈ es, isMoveP d = true) ∧ ∀ H', Same H H' → Q (.bl true) H'
section
variable {P : Program} {w : World} {K : PySem.W.Frag} {mg : Str → Option Value} {base : Heap} {lt0 lt1 : Tok} {C S fS N fN : Addr}
theorem sc_l_both_right : FnScope ["_law_first", "_law_second", "_law_one", "_law_other", "_law_due", "_law_kept", "_law_some", "_law_run", "_law_thing"] ["_law_first", "_law_second"] (defScope s_l_both_right) := ⟨rfl, rfl, rfl, by decide +kernel, rfl, by decide +kernel, by decide +kernel⟩
theorem ok_l_both {f : Addr} {fd : FuncData} (F : Fun K "_law_both_right" "_law_both_right" s_l_both_right f fd) (T : Txt K mg lt0 lt1) (M : RunM P w K mg base C N S) {f1 : Addr} {fd1 : FuncData} (F_l_basic : Fun K "_law_basic" "_law_basic" s_l_basic f1 fd1) (b_l_basic : Binds K fd1 ["_law_run", "_law_some"] []) (g_l_basic : mg "_law_basic" = some (.ref f1)) (G_l_basic : FnOk P w K mg base CX0 6 f1 fd1 ["_law_run", "_law_some"] (spBasic K C)) {f2 : Addr} {fd2 : FuncData} (F_l_sum : Fun K "_law_sum" "_law_sum" s_l_sum f2 fd2) (b_l_sum : Binds K fd2 ["_law_one", "_law_other"] []) (g_l_sum : mg "_law_sum" = some (.ref f2)) (G_l_sum : FnG P w K mg base CX0 7 f2 fd2 ["_law_one", "_law_other"] (spSum K C)) : FnG P w K mg base CX0 8 f fd ["_law_first", "_law_second"] (spBoth K) := by
  refine Fun.okG F sc_l_both_right (fun vs H Q E h => ?_) (fun cdv A outer s H vs Q E hr gd h => ?_)
  · obtain ⟨x, y, ds, es, rfl, _⟩ := h
    rfl
  · obtain ⟨x, y, ds, es, rfl, hx, hy, l1, l2, ok1, ok2, q⟩ := h
    obtain ⟨gQ, q1, q3, RQ⟩ := M.eq
    obtain ⟨mc, sm, fO, RD, SM, RO⟩ := M.of_
    obtain ⟨gl, gr, gi, AC, RA, RR, RI⟩ := M.add
    have hr1 : Room 1 _ := hr.mono (by decide)
    have hr2 : Room 2 _ := hr.mono (by decide)
    have hr6 : Room 6 _ := hr.mono (by decide)
    have hu65 := room65x hr
    refine ⟨_, (pss_cons (ps_par (i := 2) (j := 3) rfl sc_l_both_right.nd rfl rfl (by decide) rfl rfl (pa_cons (pe_smethS (E := fun _ => E0) (pe_glob (v := .ref C) rfl M.ct.mgC rfl) RD SM RO hr6 (pat passL) (pa_cons (pv 0) pa_nil)) (pa_cons (pe_smethS (E := fun _ => E0) (pe_glob (v := .ref C) rfl M.ct.mgC rfl) RD SM RO hr6 (pat passL) (pa_cons (pv 1) pa_nil)) pa_nil)) (by rfl))
      (pss_cons (ps_asg (pe_tup (pa_cons (pe_op op_catA (pv 0) (pv 1)) (pa_cons (pv 2) pa_nil))) (pg_tup rfl (pgs_cons (pg_name (i := 4) sc_l_both_right.nd rfl (.inr rfl)) (pgs_cons (pg_name (i := 5) sc_l_both_right.nd rfl (.inr rfl)) pgs_nil))))
      (pss_cons (ps_set (i := 6) sc_l_both_right.nd rfl (.inl rfl) (pe_lst (pa_cons (pe_addL (E := fun _ => E0) AC RA hr6 (pat passL) (pv 2) (pv 3)) (pa_cons (pe_addL (E := fun _ => E0) AC RA hr6 (pat passL) (pv 2) (pv 1)) (pa_cons (pe_addR (E := fun _ => E0) AC RR hr6 (pat passL) (pv 0) (pv 3)) (pa_cons (pe_addL (E := fun _ => E0) AC RA hr6 (pat passL) (pv 2) (pe_callTy call_list_of (by rfl) T.m_list (by decide +kernel) (pa_cons (pv 1) pa_nil))) (pa_cons (pe_addR (E := fun _ => E0) AC RR hr6 (pat passL) (pe_callTy call_list_of (by rfl) T.m_list (by decide +kernel) (pa_cons (pv 0) pa_nil)) (pv 3)) pa_nil)))))))
      (pss_cons (ps_if (pt_cmpR (op_neD hr.units) (pe_lc (own := [("_law_run", 7)]) (g := gName 7) rfl sc_l_both_right.nd (pi_list (pv 6)) (blkOk_by (N := ["_law_first", "_law_second", "_law_one", "_law_other", "_law_due", "_law_kept", "_law_some", "_law_run", "_law_thing"]) (sc := defScope s_l_both_right) (by decide +kernel)) (fun _ _ _ _ _ => pg_name (i := 7) sc_l_both_right.nd rfl (.inl rfl)) (fun _ _ _ _ _ => (pts_one (pt_not (pt_val (pe_call G_l_basic hr6 (by rfl) g_l_basic F_l_basic.kp b_l_basic .nil pass0 (pa_cons (pv 7) (pa_cons (pv 4) pa_nil))))))) (fun _ _ _ _ _ => (pv 7))) (pe_lst pa_nil) (nomark _)) (pss_one (ps_ret pe_bl)) pss_nil)
      (pss_cons (ps_aug (i := 2) sc_l_both_right.nd rfl (.inl rfl) (pv 1) (ip_addO AC RI hr6 passL))
      (pss_cons (ps_if (PW.pt (pw_or (pt_cmpR (op_neO RQ hr2 M.ne M.ty.hm q1 q3) (pv 2) (pe_smethS (E := fun _ => E0) (pe_glob (v := .ref C) rfl M.ct.mgC rfl) RD SM RO hr6 (pat passL) (pa_cons (pv 4) pa_nil)) (nomark _)) (pw_or (pt_not (pt_val (pe_call G_l_basic hr6 (by rfl) g_l_basic F_l_basic.kp b_l_basic .nil pass0 (pa_cons (pv 5) (pa_cons (pv 0) pa_nil))))) (pw_or1 (pt_cmpR op_ne (pe_cmpR (op_eqO RQ hr1 q1 q3) (pv 5) (pv 3) (nomark _)) (pe_cmpR (op_eqD hr.units) (pv 0) (pv 1) (nomark _)) (nomark _)))))) (pss_one (ps_ret pe_bl)) pss_nil)
      (pss_one (ps_ret (pe_cmpR (op_eqD hr.units) (pe_lc (own := [("_law_thing", 8)]) (g := gName 8) rfl sc_l_both_right.nd (pi_list (pe_lst (pa_cons pe_non (pa_cons pe_int (pa_cons pe_str (pa_cons pe_dnewK pa_nil)))))) (blkOk_by (N := ["_law_first", "_law_second", "_law_one", "_law_other", "_law_due", "_law_kept", "_law_some", "_law_run", "_law_thing"]) (sc := defScope s_l_both_right) (by decide +kernel)) (fun _ _ _ _ _ => pg_name (i := 8) sc_l_both_right.nd rfl (.inl rfl)) (fun _ _ _ _ _ => (pts_one (pt_cmpR (r := rNeD K) (op_neD hr.units) (pe_callG G_l_sum gd (hr.mono (by decide)) (by rfl) g_l_sum F_l_sum.kp b_l_sum pass0 (pa_cons (pv 5) (pa_cons (pv 8) pa_nil))) (pe_lst (pa_cons (pe_callB (r := rReprD K) (call_reprD gd hu65) (by rfl) T.m_repr (by decide +kernel) (pa_cons (pv 8) pa_nil)) pa_nil)) (nomark _)))) (fun _ _ _ _ _ => (pv 8))) (pe_lst pa_nil) (nomark _)))))))))), ?_⟩
    obtain ⟨a, xs, rfl, hs, ha, hl, h1000, hget⟩ := hx.tup
    obtain ⟨b, ys, rfl, hs2, ha2, hl2, h1000b, hget2⟩ := hy.tup
    have hg1 := hx.dp.2
    have hg2 := hy.dp.2
    have ok12 : ∀ d ∈ ds ++ es, isMoveP d = true := fun d h => (List.mem_append.mp h).elim (ok1 d) (ok2 d)
    have hlen : ds.length + es.length ≤ 1000 := by omega
    have hlen2 : es.length + ds.length ≤ 1000 := by omega
    have g12 : GG.Good 60 (.tuple (ds ++ es)) := good_t (n := 59) (by rw [List.length_append]; omega) fun d hd => (List.mem_append.mp hd).elim (fun z => ((GG.Good.tup (n := 59)).mp hg1).2 d z) fun z => ((GG.Good.tup (n := 59)).mp hg2).2 d z
    refine ⟨rfl, _, rfl, a, xs, ds, rfl, .inl hs, ha, hg1, fun _ H1 r1 s1 n1 row1 => ⟨rfl, _, rfl, b, ys, es, rfl, .inl (Same.seqT s1 hs2), dpAll_same s1 _ _ ha2, hg2, fun _ H2 r2 s2 n2 row2 => ⟨_, _, rfl, ?_⟩, fun i v hb => (no_bad ok2 hb).elim⟩, fun i v hb => (no_bad ok1 hb).elim⟩
    have t2 := s1.trans s2
    have row1 := row1.same s2
    refine ⟨_, rfl, _, rfl, cat0 (hx.same t2).dp.1 (hy.same t2).dp.1 hlen fun z H3 s3 hz => ⟨_, rfl, (by show 2 ≤ sizeLine; decide), fun t ht => ?_⟩⟩
    have s4 := s3.trans (same_upd (o := .tup [z, V.ref r1]) ht)
    have t4 := t2.trans s4
    have row1 := row1.same s4
    have row2 := row2.same s4
    have hz4 : Val K (upd H3 t (.tup [z, V.ref r1])) z (.tuple (ds ++ es)) := .inl ⟨dp_same (same_upd ht) _ _ hz, g12⟩
    refine ⟨t, _, rfl, .inl (.inl upd_same), rfl, _, _, rfl, _, _, rfl, ?_⟩
    generalize upd H3 t (.tup [z, V.ref r1]) = H4 at t4 row1 row2 hz4
    clear s4 hz ht s3 t2 s2 s1 n1 n2
    have cl := M.ct.cl
    have tc := M.ty
    refine ⟨rfl, _, rfl, _, rfl, addL_go (S := S) cl tc row1 (.inl ⟨r2, rfl, row2⟩) hlen ok12 fun H5 c1 s5 n5 d1 => ?_⟩
    refine ⟨_, rfl, _, rfl, addL_go (S := S) cl tc (row1.same s5) (.inr ⟨_, hy.same (t4.trans s5), rfl⟩) hlen ok12 fun H6 c2 s6 n6 d2 => ?_⟩
    have t6 := t4.trans (s5.trans s6)
    refine ⟨_, rfl, _, rfl, addR_go (S := S) (row2.same (s5.trans s6)) (hx.same t6) rfl hlen2 ok12 fun H7 c3 s7 n7 d3 => ?_⟩
    have s57 := s5.trans (s6.trans s7)
    refine ⟨_, rfl, _, rfl, b, ys, rfl, .inr (Same.seqT (t4.trans s57) hs2), fun l8 hl8 => ?_⟩
    have s8 := same_upd (o := .lst ys) hl8
    have s58 := s57.trans s8
    have v8 : Val K (upd H7 l8 (.lst ys)) (.ref l8) (.list es) := .inl ⟨.lst (.inl (.inl upd_same)) (dpAll_same (t4.trans s58) _ _ ha2), hg2⟩
    refine addL_go (S := S) cl tc (row1.same s58) (.inr ⟨_, v8, rfl⟩) hlen ok12 fun H9 c4 s9 n9 d4 => ?_
    have s59 := s58.trans s9
    refine ⟨_, rfl, a, xs, rfl, .inr (Same.seqT (t4.trans s59) hs), fun l10 hl10 => ?_⟩
    have s10 := same_upd (o := .lst xs) hl10
    have s60 := s59.trans s10
    have v10 : Val K (upd H9 l10 (.lst xs)) (.ref l10) (.list ds) := .inl ⟨.lst (.inl (.inl upd_same)) (dpAll_same (t4.trans s60) _ _ ha), hg1⟩
    refine ⟨_, rfl, addR_go (S := S) (row2.same s60) v10 rfl hlen2 ok12 fun H11 c5 s11 n11 d5 => ⟨(by show 5 ≤ sizeLine; decide), fun l12 hl12 => ?_⟩⟩
    have s12 := same_upd (o := .lst [V.ref c1, .ref c2, .ref c3, .ref c4, .ref c5]) hl12
    have x11 := s11.trans s12
    have x9 := (s10.trans x11)
    have x7 := s8.trans (s9.trans x9)
    have x6 := s7.trans x7
    have x5 := s6.trans x6
    have t12 := t4.trans (s5.trans x5)
    have u12 := s5.trans x5
    have all5 : ∀ v ∈ [V.ref c1, .ref c2, .ref c3, .ref c4, .ref c5], ∃ c, v = .ref c ∧ RunI K C (upd H11 l12 (.lst [V.ref c1, .ref c2, .ref c3, .ref c4, .ref c5])) c (ds ++ es) := fun v hv => by
      simp only [List.mem_cons, List.not_mem_nil, or_false] at hv
      rcases hv with rfl | rfl | rfl | rfl | rfl
      · exact ⟨c1, rfl, d1.same x5⟩
      · exact ⟨c2, rfl, d2.same x6⟩
      · exact ⟨c3, rfl, d3.same x7⟩
      · exact ⟨c4, rfl, d4.same x9⟩
      · exact ⟨c5, rfl, d5.same s12⟩
    have e12 : (upd H11 l12 (.lst [V.ref c1, .ref c2, .ref c3, .ref c4, .ref c5])) l12 = some (.lst [V.ref c1, .ref c2, .ref c3, .ref c4, .ref c5]) := upd_same
    have row1 := row1.same u12
    have row2 := row2.same u12
    have hz := hz4.same u12
    generalize upd H11 l12 (.lst [V.ref c1, .ref c2, .ref c3, .ref c4, .ref c5]) = HA at t12 all5 e12 row1 row2 hz
    clear u12 x5 x6 x7 x9 x11 s12 hl12 d1 d2 d3 d4 d5
    have l30 : (ds ++ es).length ≤ 30 := by rw [List.length_append]; omega
    refine ⟨_, rfl, l12, rfl, ⟨_, .inl (.inl e12)⟩, fun D hD => lc_it (walk_list (xs := [V.ref c1, .ref c2, .ref c3, .ref c4, .ref c5])) (fun j H' => Same HA H' ∧ H' D = some (.lst [])) ⟨same_upd hD, upd_same⟩ (fun j H' _ h => .inl (.inl (h.1 _ _ e12))) ?_ ?_⟩
    · rintro j v _ H6 hj ⟨s6, e6⟩ ⟨rfl, hx⟩
      obtain ⟨c, rfl, rowc⟩ := all5 v (List.mem_of_getElem? hx)
      exact ⟨rfl, _, rfl, _, rfl, c, z, ds ++ es, rfl, rowc.same s6, hz.same s6, l30, ok12, fun H7 s7 => ⟨_, rfl, iteF ⟨s6.trans s7, s7 _ _ e6⟩⟩⟩
    rintro HB ⟨sB, eB⟩
    refine ⟨Nat.zero_le _, fun l9 hl9 => ⟨.list [], .list [], .lst (.inl (.inl ((same_upd hl9) _ _ eB))) .nil, .lst (.inl (.inl upd_same)) .nil, by decide +kernel, by decide +kernel, _, rfl, iteB (c := false) (by decide +kernel) (iteF ?_)⟩⟩
    have sC := sB.trans (same_upd (o := .lst []) hl9)
    have tC := t12.trans sC
    have row1 := row1.same sC
    have row2 := row2.same sC
    generalize upd HB l9 (.lst []) = HC at sC tC row1 row2
    obtain ⟨dx1, p1, k1, k2⟩ := id row1
    refine ⟨_, rfl, _, rfl, r1, dx1, _, rfl, k1, r1, _, ds, rfl, row1, .inl ⟨es, .inr ⟨_, hy.same tC, rfl⟩, hlen, fun _ HD r3 sD nD row3 => ⟨⟨r3, rfl⟩, ?_⟩, fun i v d hb => (no_bad ok12 hb).elim⟩⟩
    have tD := tC.trans sD
    have hzD := (hz.same sC).same sD
    have hlz := g12.lay (by decide)
    obtain ⟨zc, zs, rfl, hsz, haz, hzl, hz1000, hzget⟩ := hzD.tup
    have self_eq : ∀ d, SeqAt.shaped d = true → PyData.eqv d d = true := fun d h => SeqAt.eqv_refl _ (SeqAt.canLay_of_shaped h)
    have row3 : RunI K C HD r3 (ds ++ es) := row3
    refine ⟨_, rfl, rfl, _, rfl, zc, zs, ds ++ es, rfl, .inl hsz, haz, g12, fun _ HE r4 sE nE row4 => ?_, fun i v hb => (no_bad ok12 hb).elim⟩
    have row3 := row3.same sE
    obtain ⟨dx3, p3, m1, m2⟩ := id row3
    refine ⟨r3, dx3, _, _, rfl, m1, row4.ty cl tc, not_self, r3, .ref r4, _, rfl, row3, .inl ⟨r4, _, rfl, row4, _, rfl, _, rfl, iteB (c := false) (by show (!PyData.eqv _ _) = false; rw [self_eq _ hlz]; rfl) (iteF ?_)⟩⟩
    have tE := tD.trans sE
    have row1 := row1.same (sD.trans sE)
    have row2 := row2.same (sD.trans sE)
    refine ⟨_, rfl, _, rfl, r1, .ref a, ds, rfl, row1, hx.same tE, by omega, ok1, fun HF sF => ⟨_, rfl, iteF ?_⟩⟩
    have tF := tE.trans sF
    have row1 := row1.same sF
    have row2 := row2.same sF
    obtain ⟨dx1, p1, k1, k2⟩ := id row1
    refine ⟨_, rfl, _, rfl, r1, dx1, _, _, rfl, k1, row2.ty cl tc, not_self, r1, .ref r2, ds, rfl, row1, .inl ⟨r2, es, rfl, row2, _, rfl, ?_⟩⟩
    refine ⟨_, rfl, _, rfl, .tuple ds, .tuple es, (hx.same tF).dp.1, (hy.same tF).dp.1, hg1.lay (by decide), hg2.lay (by decide), rfl, _, rfl, iteB (c := false) (by simp) (iteF ?_)⟩
    refine fun de hde => ⟨(by show 4 ≤ sizeLine; decide), fun l13 hl13 => ?_⟩
    have s13 := same_upd (o := .dK []) hde
    have s14 := same_upd (o := .lst [V.non, .int 5, .str "come", .ref de]) hl13
    have t14 := tF.trans (s13.trans s14)
    have ede := s14 _ _ (upd_same (H := HF) (a := de) (o := .dK []))
    have e14 : (upd (upd HF de (.dK [])) l13 (.lst [V.non, .int 5, .str "come", .ref de])) l13 = some (.lst [V.non, .int 5, .str "come", .ref de]) := upd_same
    have row1 := row1.same (s13.trans s14)
    refine ⟨l13, rfl, ⟨_, .inl (.inl e14)⟩, ?_⟩
    generalize upd (upd HF de (.dK [])) l13 (.lst [V.non, .int 5, .str "come", .ref de]) = HG at t14 ede e14 row1
    refine fun D2 hD2 => lc_it (walk_list (xs := [V.non, .int 5, .str "come", .ref de])) (fun j H' => Same HG H' ∧ H' D2 = some (.lst [])) ⟨same_upd hD2, upd_same⟩ (fun j H' _ h => .inl (.inl (h.1 _ _ e14))) ?_ ?_
    · rintro j v _ H6 hj ⟨s6, e6⟩ ⟨rfl, hx⟩
      have hm := List.mem_of_getElem? hx
      have row1 := row1.same s6
      have gd60 : ∀ d, okD d = true → PyData.depth d ≤ 60 → GG.Good 60 d := fun d h1 h2 => ⟨h1, h2⟩
      simp only [List.mem_cons, List.not_mem_nil, or_false] at hm
      rcases hm with rfl | rfl | rfl | rfl
      · have sh : ShowD (.none) := ⟨by decide +kernel, by decide +kernel, by decide +kernel⟩
        have hD9 : SeqAt.shaped (.list [.str (PyData.shown (.none))]) = true := by decide +kernel
        refine ⟨rfl, _, rfl, _, rfl, r1, _, ds, .none, rfl, row1, .inr ⟨.non, .inl ⟨.non, gd60 _ (by decide +kernel) (by decide +kernel)⟩, .inl ⟨.non, sh⟩⟩, fun H7 l7 s7 n7 e7 => ?_⟩
        refine ⟨_, rfl, .inl ⟨_, .none, rfl, .non, sh.1, sh.2.1, sh.2.2, (by show 1 ≤ sizeLine; decide), fun l8 hl8 => ?_⟩⟩
        have s8 := same_upd (o := .lst [V.str (PyData.shown (.none))]) hl8
        exact ⟨.list [.str (PyData.shown (.none))], .list [.str (PyData.shown (.none))], .lst (.inl (.inl (s8 _ _ e7))) (.cons (.str _) .nil), .lst (.inl (.inl upd_same)) (.cons (.str _) .nil), hD9, hD9, _, rfl, iteB (c := false) (by rw [self_eq _ hD9]; rfl) (iteF ⟨s6.trans (s7.trans s8), (s7.trans s8) _ _ e6⟩)⟩
      · have sh : ShowD (.int 5) := ⟨by decide +kernel, by decide +kernel, by decide +kernel⟩
        have hD9 : SeqAt.shaped (.list [.str (PyData.shown (.int 5))]) = true := by decide +kernel
        refine ⟨rfl, _, rfl, _, rfl, r1, _, ds, .int 5, rfl, row1, .inr ⟨.int 5, .inl ⟨.int 5, gd60 _ (by decide +kernel) (by decide +kernel)⟩, .inl ⟨.int 5, sh⟩⟩, fun H7 l7 s7 n7 e7 => ?_⟩
        refine ⟨_, rfl, .inl ⟨_, .int 5, rfl, .int 5, sh.1, sh.2.1, sh.2.2, (by show 1 ≤ sizeLine; decide), fun l8 hl8 => ?_⟩⟩
        have s8 := same_upd (o := .lst [V.str (PyData.shown (.int 5))]) hl8
        exact ⟨.list [.str (PyData.shown (.int 5))], .list [.str (PyData.shown (.int 5))], .lst (.inl (.inl (s8 _ _ e7))) (.cons (.str _) .nil), .lst (.inl (.inl upd_same)) (.cons (.str _) .nil), hD9, hD9, _, rfl, iteB (c := false) (by rw [self_eq _ hD9]; rfl) (iteF ⟨s6.trans (s7.trans s8), (s7.trans s8) _ _ e6⟩)⟩
      · have sh : ShowD (.str "come") := ⟨by decide +kernel, by decide +kernel, by decide +kernel⟩
        have hD9 : SeqAt.shaped (.list [.str (PyData.shown (.str "come"))]) = true := by decide +kernel
        refine ⟨rfl, _, rfl, _, rfl, r1, _, ds, .str "come", rfl, row1, .inr ⟨.str "come", .inl ⟨.str "come", gd60 _ (by decide +kernel) (by decide +kernel)⟩, .inl ⟨.str "come", sh⟩⟩, fun H7 l7 s7 n7 e7 => ?_⟩
        refine ⟨_, rfl, .inl ⟨_, .str "come", rfl, .str "come", sh.1, sh.2.1, sh.2.2, (by show 1 ≤ sizeLine; decide), fun l8 hl8 => ?_⟩⟩
        have s8 := same_upd (o := .lst [V.str (PyData.shown (.str "come"))]) hl8
        exact ⟨.list [.str (PyData.shown (.str "come"))], .list [.str (PyData.shown (.str "come"))], .lst (.inl (.inl (s8 _ _ e7))) (.cons (.str _) .nil), .lst (.inl (.inl upd_same)) (.cons (.str _) .nil), hD9, hD9, _, rfl, iteB (c := false) (by rw [self_eq _ hD9]; rfl) (iteF ⟨s6.trans (s7.trans s8), (s7.trans s8) _ _ e6⟩)⟩
      · have hD9 : SeqAt.shaped (.list [.str (PyData.shown (.dict []))]) = true := by decide +kernel
        have e9 : PyData.shown (.dict []) = ("{}" : Str) := by decide +kernel
        refine ⟨rfl, _, rfl, _, rfl, r1, _, ds, .dict [], rfl, row1, .inr ⟨.dict, .inr ⟨rfl, de, [], rfl, s6 _ _ ede⟩, .inr ⟨rfl, de, rfl, s6 _ _ ede⟩⟩, fun H7 l7 s7 n7 e7 => ?_⟩
        refine ⟨_, rfl, .inr ⟨de, rfl, s7 _ _ (s6 _ _ ede), (by show 1 ≤ sizeLine; decide), fun l8 hl8 => ?_⟩⟩
        have s8 := same_upd (o := .lst [V.str "{}"]) hl8
        rw [e9] at e7 hD9
        exact ⟨.list [.str "{}"], .list [.str "{}"], .lst (.inl (.inl (s8 _ _ e7))) (.cons (.str _) .nil), .lst (.inl (.inl upd_same)) (.cons (.str _) .nil), hD9, hD9, _, rfl, iteB (c := false) (by rw [self_eq _ hD9]; rfl) (iteF ⟨s6.trans (s7.trans s8), (s7.trans s8) _ _ e6⟩)⟩
    · rintro H6 ⟨s6, e6⟩
      refine ⟨Nat.zero_le _, fun l9 hl9 => ⟨.list [], .list [], .lst (.inl (.inl ((same_upd hl9) _ _ e6))) .nil, .lst (.inl (.inl upd_same)) .nil, by decide +kernel, by decide +kernel, ?_⟩⟩
      exact q _ ((t14.trans s6).trans (same_upd hl9))
end
end K12

namespace K12
open PySem PySem.Spec PyProof.Rows StX L2 TL GG OO
theorem look_rel {env : Env} {x : Str} {k : NameKind} : ∀ {names : List (Str × NameKind)}, names.lookup x = some k →
    (names.map fun (n, k) => if (k == NameKind.free && env.scope.kind == .function && env.kindOf n == some .cell) then (n, NameKind.cell) else (n, k)).lookup x = some k ∨
    (k = .free ∧ (names.map fun (n, k) => if (k == NameKind.free && env.scope.kind == .function && env.kindOf n == some .cell) then (n, NameKind.cell) else (n, k)).lookup x = some .cell)
  | [], h => by simp at h
  | (n, j) :: r, h => by
    have ih := @look_rel env x k r
    rw [List.map_cons]
    rw [List.lookup_cons] at h
    by_cases hx : (x == n) = true
    · rw [hx] at h
      cases Option.some.inj h
      by_cases hc : (k == NameKind.free && env.scope.kind == .function && env.kindOf n == some .cell) = true
      · right
        refine ⟨?_, ?_⟩
        · have := (Bool.and_eq_true_iff.mp (Bool.and_eq_true_iff.mp hc).1).1
          exact eq_of_beq this
        · simp only [hc, if_true, List.lookup_cons, hx]
      · left
        show List.lookup x ((if (k == NameKind.free && env.scope.kind == .function && env.kindOf n == some .cell) = true then (n, NameKind.cell) else (n, k)) :: _) = some k
        rw [if_neg hc, List.lookup_cons, hx]
    · have hx : (x == n) = false := by cases hb : (x == n) <;> simp_all
      rw [hx] at h
      have e : ∀ k' : NameKind, (if (j == NameKind.free && env.scope.kind == .function && env.kindOf n == some .cell) = true then (n, NameKind.cell) else (n, j)).1 = n := fun _ => by split <;> rfl
      rw [List.lookup_cons]
      rw [show (x == (if (j == NameKind.free && env.scope.kind == .function && env.kindOf n == some .cell) = true then (n, NameKind.cell) else (n, j)).1) = false by rw [e k]; exact hx]
      exact ih h
theorem blkOk_rel {N : List Str} {sc scope : Scope} {own : List (Str × Nat)} {env : Env} (h : BlkOk N sc scope own) : BlkOk N (relabel sc env) scope own :=
  ⟨h.kind, h.uniq, h.ix, fun y hy e => by
    rcases h.free y hy e with c | f
    · rcases look_rel (env := env) c with r | ⟨r, _⟩
      · exact .inl r
      · cases r
    · rcases look_rel (env := env) f with r | ⟨_, r⟩
      · exact .inr r
      · exact .inl r, h.own⟩
/-- the scope of the law's outer comprehension -/
def scOne : Scope := match s_law with
  | .FunctionDef (body := .For _ _ (_ :: _ :: _ :: _ :: .Assign _ (.ListComp _ _ sc _) _ :: _) _ _ :: _) .. => sc
  | _ => default
def goodD (n : Int) : List PyData := [.tuple [.str "come"], .tuple [.str "step"], .tuple [.str "go", .int n], .tuple [.str "begin", .str "w"], .tuple [.str "run", .str "wwwwwwww"], .tuple [.str "come"]]
def oddD : List PyData := [.tuple [.str "go", .int 14], .tuple [.str "go", .int (-1)], .tuple [.str "begin", .str ""], .tuple [.str "run", .int 5], .tuple [.str "out"], .none, .list [.str "come"], .tuple [], .tuple [.str "step", .int 1], .tuple [.str "go", .bool true]]
theorem good_all {n : Int} (h0 : 0 ≤ n) (h1 : n < 14) : ∀ d ∈ goodD n, isMoveP d = true ∧ GG.Good 20 d := by
  obtain ⟨m, rfl⟩ : ∃ m : Nat, n = (m : Int) := ⟨n.toNat, by omega⟩
  have : ∀ m, m < 14 → ∀ d ∈ goodD (m : Nat), isMoveP d = true ∧ okD d = true ∧ PyData.depth d ≤ 20 := by decide +kernel
  exact this m (by omega)
theorem odd_all : ∀ d ∈ oddD, isMoveP d = false ∧ (okD d = true ∧ PyData.depth d ≤ 20) ∧ d.showable = true ∧ d.shown.length ≤ sizeLine ∧ d.depth ≤ 60 := by decide +kernel
theorem odd_text : ∀ d ∈ oddD, SeqAt.shaped (.list [.str d.shown]) = true := by decide +kernel
section
variable {K : PySem.W.Frag}
theorem dpAll_mem {R : Hp} {xs : List V} {ds : List PyData} {x : V} (h : DpAll K R xs ds) (hx : x ∈ xs) : ∃ d ∈ ds, Dp K R x d := by
  obtain ⟨i, hi⟩ := List.getElem?_of_mem hx
  have hl := dpAll_len h
  have hi2 := (List.getElem?_eq_some_iff.mp hi).1
  have hd : ds[i]? = some (ds[i]'(by omega)) := List.getElem?_eq_getElem (by omega)
  exact ⟨_, List.mem_of_getElem? hd, dpAll_at h hi hd⟩
theorem dpAll_pick {R : Hp} {G : List PyData} : ∀ {xs : List V}, (∀ y ∈ xs, ∃ d ∈ G, Dp K R y d) → ∃ ds, DpAll K R xs ds ∧ ds.length = xs.length ∧ ∀ d ∈ ds, d ∈ G
  | [], _ => ⟨[], .nil, rfl, fun d h => nomatch h⟩
  | x :: xs, h => by
    obtain ⟨d, hd, h1⟩ := h x List.mem_cons_self
    obtain ⟨ds, h2, h3, h4⟩ := dpAll_pick (xs := xs) fun y hy => h y (List.mem_cons_of_mem _ hy)
    refine ⟨d :: ds, .cons h1 h2, by rw [List.length_cons, List.length_cons, h3], fun e he => ?_⟩
    rcases List.mem_cons.mp he with rfl | he
    · exact hd
    · exact h4 e he
theorem ld_new {p t : Addr} {R H : Hp} {vs : List V} {ds : List PyData} (k : Rest p R H) (ht : H t = none) (hv : DpAll K R vs ds) : Go p R H (upd R t (.lst vs)) (upd H t (.lst vs)) ∧ LD K (upd R t (.lst vs)) (.ref t) ds :=
  ⟨Go.new k ht, t, vs, rfl, upd_same, dpAll_same (Go.new (o := .lst vs) k ht).same _ _ hv⟩
/-- a tuple of good moves -/
def TupG (K : PySem.W.Frag) (n : Int) (R : Hp) (x : V) : Prop := ∃ ds, Dp K R x (.tuple ds) ∧ ds.length ≤ 8 ∧ ∀ d ∈ ds, d ∈ goodD n
theorem TupG.same {n : Int} {R R' : Hp} {x : V} (h : TupG K n R x) (s : Same R R') : TupG K n R' x := by
  obtain ⟨ds, h1, h2, h3⟩ := h
  exact ⟨ds, dp_same s _ _ h1, h2, h3⟩
end
/-- tuple(list) -/
def rTupL (K : PySem.W.Frag) (xs : List V) (H : Hp) (Q : VK) : Prop := ∃ (D : Addr) (ys : List V), xs = [.ref D] ∧ SqL K H D ys ∧ ∀ l, H l = none → Q (.ref l) (upd H l (.tup ys))
theorem call_tupL {X : Cx} : CallR X (.type "tuple") (rTupL X.K) := fun pins s σ H xs us Q I r h => by
  obtain ⟨D, ys, e, h1, h2⟩ := h
  exact call_tuple_of pins s σ H xs us Q I r ⟨D, ys, e, .inl ⟨h1, h2⟩⟩
def spLaw (K : PySem.W.Frag) : Sp := fun vs H Q _ => ∃ (a : Addr) (ns : List Int), vs = [.ref a] ∧ SqL K H a (ns.map V.int) ∧ ns.length ≤ 63 ∧ ∀ H', Q (.bl true) H'
section
variable {P : Program} {w : World} {K : PySem.W.Frag} {mg : Str → Option Value} {base : Heap} {lt0 lt1 : Tok} {C S fS N fN : Addr}
theorem sc_law : FnScope ["_law_script", "_law_k", "_law_cell", "_law_pool_here", "_law_good", "_law_odd", "_law_some", "_law_at", "_law_spoilt", "_law_again", "_law_turn", "_law_move"] ["_law_script"] (defScope s_law) := ⟨rfl, rfl, rfl, by decide +kernel, rfl, by decide +kernel, by decide +kernel⟩
theorem ok_l_law {f : Addr} {fd : FuncData} (F : Fun K "law" "law" s_law f fd) (T : Txt K mg lt0 lt1) (M : RunM P w K mg base C N S) (nf : PySem.W.notFirst K C (.type "tuple") = true) {f1 : Addr} {fd1 : FuncData} (F_l_pool : Fun K "_law_pool" "_law_pool" s_l_pool f1 fd1) (b_l_pool : Binds K fd1 ["_law_cell", "_law_salt", "_law_many"] []) (g_l_pool : mg "_law_pool" = some (.ref f1)) (G_l_pool : FnOk P w K mg base CX0 2 f1 fd1 ["_law_cell", "_law_salt", "_law_many"] (spPool K)) {f2 : Addr} {fd2 : FuncData} (F_l_draw : Fun K "_law_draw" "_law_draw" s_l_draw f2 fd2) (b_l_draw : Binds K fd2 ["_law_pool_here", "_law_many"] []) (g_l_draw : mg "_law_draw" = some (.ref f2)) (G_l_draw : FnOk P w K mg base CX0 1 f2 fd2 ["_law_pool_here", "_law_many"] (spDraw K)) {f3 : Addr} {fd3 : FuncData} (F_l_pick : Fun K "_law_pick" "_law_pick" s_l_pick f3 fd3) (b_l_pick : Binds K fd3 ["_law_pool_here", "_law_some"] []) (g_l_pick : mg "_law_pick" = some (.ref f3)) (G_l_pick : FnOk P w K mg base CX0 2 f3 fd3 ["_law_pool_here", "_law_some"] (spPick K)) {f4 : Addr} {fd4 : FuncData} (F_is_move : Fun K "is_move" "is_move" s_is_move f4 fd4) (b_is_move : Binds K fd4 ["value"] []) (g_is_move : mg "is_move" = some (.ref f4)) (G_is_move : FnOk P w K mg base CX0 2 f4 fd4 ["value"] (spChk K isMoveP)) {f5 : Addr} {fd5 : FuncData} (F_l_is_move : Fun K "_law_is_move" "_law_is_move" s_l_is_move f5 fd5) (b_l_is_move : Binds K fd5 ["_law_value"] []) (g_l_is_move : mg "_law_is_move" = some (.ref f5)) (G_l_is_move : FnOk P w K mg base CX0 2 f5 fd5 ["_law_value"] (spChk K isMoveP)) {f6 : Addr} {fd6 : FuncData} (F_l_both_right : Fun K "_law_both_right" "_law_both_right" s_l_both_right f6 fd6) (b_l_both_right : Binds K fd6 ["_law_first", "_law_second"] []) (g_l_both_right : mg "_law_both_right" = some (.ref f6)) (G_l_both_right : FnG P w K mg base CX0 8 f6 fd6 ["_law_first", "_law_second"] (spBoth K)) {f7 : Addr} {fd7 : FuncData} (F_l_made : Fun K "_law_made" "_law_made" s_l_made f7 fd7) (b_l_made : Binds K fd7 ["_law_some"] []) (g_l_made : mg "_law_made" = some (.ref f7)) (G_l_made : FnG P w K mg base CX0 7 f7 fd7 ["_law_some"] (spBadL K)) {f8 : Addr} {fd8 : FuncData} (F_l_wrong : Fun K "_law_wrong" "_law_wrong" s_l_wrong f8 fd8) (b_l_wrong : Binds K fd8 ["_law_some"] []) (g_l_wrong : mg "_law_wrong" = some (.ref f8)) (G_l_wrong : FnG P w K mg base CX0 3 f8 fd8 ["_law_some"] (spBadL K)) {f9 : Addr} {fd9 : FuncData} (F_l_sum : Fun K "_law_sum" "_law_sum" s_l_sum f9 fd9) (b_l_sum : Binds K fd9 ["_law_one", "_law_other"] []) (g_l_sum : mg "_law_sum" = some (.ref f9)) (G_l_sum : FnG P w K mg base CX0 7 f9 fd9 ["_law_one", "_law_other"] (spSum K C)) : FnG P w K mg base CX0 9 f fd ["_law_script"] (spLaw K) := by
  refine Fun.okG F sc_law (fun vs H Q E h => ?_) (fun cdv A outer s H vs Q E hr gd h => ?_)
  · obtain ⟨a, ns, rfl, _⟩ := h
    rfl
  · obtain ⟨a, ns, rfl, hS, hlen, q⟩ := h
    obtain ⟨gQ, q1, q3, RQ⟩ := M.eq
    obtain ⟨gE, e1, e3, RE⟩ := M.len
    obtain ⟨mc, sm, fO, RD, SM, RO⟩ := M.of_
    obtain ⟨fI, MI, GI⟩ := M.mk_
    have hr1 : Room 1 _ := hr.mono (by decide)
    have hr2 : Room 2 _ := hr.mono (by decide)
    have hr5 : Room 5 _ := hr.mono (by decide)
    have hr6 : Room 6 _ := hr.mono (by decide)
    refine ⟨_, (pss_cons (ps_for PassesOwn.never rfl (pi_enum (by rfl) T.m_enumerate (pa_cons (pe_op op_cat (pe_slice sl_list (pv 0) po_none (po_some pe_int)) (pe_op op_rep (pe_lst (pa_cons pe_int pa_nil)) (pe_callTy call_int1 (by rfl) T.m_int (by decide +kernel) (pa_cons (pe_cmpR (op_eqD hr.units) (pv 0) (pe_lst pa_nil) (nomark _)) pa_nil)))) pa_nil)) (pg_tup rfl (pgs_cons (pg_name (i := 1) sc_law.nd rfl (.inl rfl)) (pgs_cons (pg_name (i := 2) sc_law.nd rfl (.inl rfl)) pgs_nil))) 
          (pss_cons (ps_set (i := 3) sc_law.nd rfl (.inr rfl) (pe_call G_l_pool (hr.mono (by decide)) (by rfl) g_l_pool F_l_pool.kp b_l_pool .nil pass0 (pa_cons (pv 2) (pa_cons (pe_op op_add pe_int (pv 1)) (pa_cons pe_int pa_nil))))) 
          (pss_cons (ps_set (i := 4) sc_law.nd rfl (.inr rfl) (pe_lst (pa_cons (pe_tup (pa_cons pe_str pa_nil)) (pa_cons (pe_tup (pa_cons pe_str pa_nil)) (pa_cons (pe_tup (pa_cons pe_str (pa_cons (pe_call G_l_draw (hr.mono (by decide)) (by rfl) g_l_draw F_l_draw.kp b_l_draw .nil pass0 (pa_cons (pv 3) (pa_cons pe_int pa_nil))) pa_nil))) (pa_cons (pe_tup (pa_cons pe_str (pa_cons pe_str pa_nil))) (pa_cons (pe_tup (pa_cons pe_str (pa_cons pe_str pa_nil))) (pa_cons (pe_tup (pa_cons pe_str pa_nil)) pa_nil)))))))) 
          (pss_cons (ps_set (i := 5) sc_law.nd rfl (.inl rfl) (pe_lst (pa_cons (pe_tup (pa_cons pe_str (pa_cons pe_int pa_nil))) (pa_cons (pe_tup (pa_cons pe_str (pa_cons (pe_un un_neg pe_int) pa_nil))) (pa_cons (pe_tup (pa_cons pe_str (pa_cons pe_str pa_nil))) (pa_cons (pe_tup (pa_cons pe_str (pa_cons pe_int pa_nil))) (pa_cons (pe_tup (pa_cons pe_str pa_nil)) (pa_cons pe_non pa_nil)))))))) 
          (pss_cons (ps_set (i := 5) sc_law.nd rfl (.inl rfl) (pe_op op_cat (pv 5) (pe_lst (pa_cons (pe_lst (pa_cons pe_str pa_nil)) (pa_cons (pe_tup pa_nil) (pa_cons (pe_tup (pa_cons pe_str (pa_cons pe_int pa_nil))) (pa_cons (pe_tup (pa_cons pe_str (pa_cons pe_bl pa_nil))) pa_nil))))))) 
          (pss_cons (ps_setLc (i := 6) (own := [("_law_again", 9)]) (g := gName 9) rfl sc_law.nd rfl rfl (sw_true rfl rfl rfl (by decide +kernel)) (pi_range1 rfl T.m_range (pa_cons pe_int pa_nil)) (blkOk_by (N := ["_law_script", "_law_k", "_law_cell", "_law_pool_here", "_law_good", "_law_odd", "_law_some", "_law_at", "_law_spoilt", "_law_again", "_law_turn", "_law_move"]) (sc := defScope s_law) (by decide +kernel)) (fun _ _ _ _ _ => pg_name (i := 9) sc_law.nd rfl (.inl rfl)) (fun _ _ _ _ _ => pts_nil) (fun _ _ _ _ _ => (pe_callTy (T := "tuple") (r := rTupL K) call_tupL (by rfl) T.m_tuple (by decide +kernel) (pa_cons (pe_lc (wi := iRng1 (tCons (tCall (spDraw K) [] E0 (tCons (tVar 3) (tCons (tC (.int 9)) tNil))) tNil)) (own := [("_law_turn", 10)]) (g := gName 10) rfl sc_law.nd (pi_range1 rfl T.m_range (pa_cons (pe_call G_l_draw (hr.mono (by decide)) (by rfl) g_l_draw F_l_draw.kp b_l_draw .nil pass0 (pa_cons (pv 3) (pa_cons pe_int pa_nil))) pa_nil)) (blkOk_rel (blkOk_by (N := ["_law_script", "_law_k", "_law_cell", "_law_pool_here", "_law_good", "_law_odd", "_law_some", "_law_at", "_law_spoilt", "_law_again", "_law_turn", "_law_move"]) (sc := scOne) (by decide +kernel))) (fun _ _ _ _ _ => pg_name (i := 10) sc_law.nd rfl (.inl rfl)) (fun _ _ _ _ _ => pts_nil) (fun _ _ _ _ _ => (pe_call G_l_pick (hr.mono (by decide)) (by rfl) g_l_pick F_l_pick.kp b_l_pick .nil pass0 (pa_cons (pv 3) (pa_cons (pv 4) pa_nil))))) pa_nil)))) 
          (pss_cons (ps_if (pt_not (pt_val (pe_callG G_l_both_right gd (hr.mono (by decide)) (by rfl) g_l_both_right F_l_both_right.kp b_l_both_right pass0 (pa_cons (pe_ix ix_list (pv 6) pe_int (fun _ _ => rfl)) (pa_cons (pe_ix ix_list (pv 6) pe_int (fun _ _ => rfl)) pa_nil))))) 
            (pss_one (ps_ret pe_bl)) pss_nil) 
          (pss_cons (ps_set (i := 7) sc_law.nd rfl (.inl rfl) (pe_call G_l_draw (hr.mono (by decide)) (by rfl) g_l_draw F_l_draw.kp b_l_draw .nil pass0 (pa_cons (pv 3) (pa_cons (pe_op op_add (pe_callB call_len_seq (by rfl) T.m_len PySem.boot_len (pa_cons (pe_ix ix_list (pv 6) pe_int (fun _ _ => rfl)) pa_nil)) pe_int) pa_nil)))) 
          (pss_cons (ps_set (i := 8) sc_law.nd rfl (.inl rfl) (pe_op op_catA (pe_op op_catA (pe_op op_catA (pe_slice sl_tupA (pe_ix ix_list (pv 6) pe_int (fun _ _ => rfl)) po_none (po_some (pv 7))) (pe_tup (pa_cons (pe_call G_l_pick (hr.mono (by decide)) (by rfl) g_l_pick F_l_pick.kp b_l_pick .nil pass0 (pa_cons (pv 3) (pa_cons (pv 5) pa_nil))) pa_nil))) (pe_slice sl_tupA (pe_ix ix_list (pv 6) pe_int (fun _ _ => rfl)) (po_some (pv 7)) po_none)) (pe_tup (pa_cons pe_non pa_nil)))) 
          (pss_cons (ps_if (PW.pt (pw_or (pt_cmpR (op_neD hr.units) (pe_callG G_l_made gd (hr.mono (by decide)) (by rfl) g_l_made F_l_made.kp b_l_made pass0 (pa_cons (pv 8) pa_nil)) (pe_callG G_l_wrong gd (hr.mono (by decide)) (by rfl) g_l_wrong F_l_wrong.kp b_l_wrong pass0 (pa_cons (pv 8) pa_nil)) (nomark _)) (pw_or1 (pt_cmpR (op_neD hr.units) (pe_callG G_l_sum gd (hr.mono (by decide)) (by rfl) g_l_sum F_l_sum.kp b_l_sum pass0 (pa_cons (pe_makeRS0 (E := fun _ => E0) (x := "Run") MI GI hr5 rfl M.ct.mgC (pat passL)) (pa_cons (pv 8) pa_nil))) (pe_callG G_l_wrong gd (hr.mono (by decide)) (by rfl) g_l_wrong F_l_wrong.kp b_l_wrong pass0 (pa_cons (pv 8) pa_nil)) (nomark _))))) 
            (pss_one (ps_ret pe_bl)) pss_nil) 
          (pss_one (ps_if (pt_cmpR (op_neD hr.units) (pe_lc (own := [("_law_move", 11)]) (g := gName 11) rfl sc_law.nd (pi_list (pe_op op_cat (pv 4) (pv 5))) (blkOk_by (N := ["_law_script", "_law_k", "_law_cell", "_law_pool_here", "_law_good", "_law_odd", "_law_some", "_law_at", "_law_spoilt", "_law_again", "_law_turn", "_law_move"]) (sc := defScope s_law) (by decide +kernel)) (fun _ _ _ _ _ => pg_name (i := 11) sc_law.nd rfl (.inl rfl)) (fun _ _ _ _ _ => (pts_one (pt_cmpR op_ne (pe_call G_is_move (hr.mono (by decide)) (by rfl) g_is_move F_is_move.kp b_is_move .nil pass0 (pa_cons (pv 11) pa_nil)) (pe_call G_l_is_move (hr.mono (by decide)) (by rfl) g_l_is_move F_l_is_move.kp b_l_is_move .nil pass0 (pa_cons (pv 11) pa_nil)) (nomark _)))) (fun _ _ _ _ _ => (pv 11))) (pe_lst pa_nil) (nomark _)) 
            (pss_one (ps_ret pe_bl)) pss_nil)))))))))))) 
        (pss_one (ps_ret (pe_and (pe_cmpR op_eq (pe_callB (call_lenO RE hr2 pass0 e1 e3) (by rfl) T.m_len PySem.boot_len (pa_cons (pe_makeRS0 (E := fun _ => E0) (x := "Run") MI GI hr5 rfl M.ct.mgC (pat passL)) pa_nil)) pe_int (nomark _)) (pe_and (pe_cmpR (op_eqO RQ hr1 q1 q3) (pe_makeRS (E := fun _ => E0) (x := "Run") MI GI hr5 rfl M.ct.mgC (pat passL) (pa_cons (pe_tup (pa_cons pe_str pa_nil)) (pa_cons (pe_tup (pa_cons pe_str pa_nil)) pa_nil))) (pe_smethS (E := fun _ => E0) (pe_glob (v := .ref C) rfl M.ct.mgC rfl) RD SM RO hr6 (pat passL) (pa_cons (pe_lst (pa_cons (pe_tup (pa_cons pe_str pa_nil)) (pa_cons (pe_tup (pa_cons pe_str pa_nil)) pa_nil))) pa_nil)) (nomark _)) (pe_one (pe_cmpR (op_neO RQ hr2 M.ne M.ty.hm q1 q3) (pe_makeRS0 (E := fun _ => E0) (x := "Run") MI GI hr5 rfl M.ct.mgC (pat passL)) (pe_tup pa_nil) (nomark _)))))))), ?_⟩
    refine ⟨_, rfl, _, rfl, a, _, rfl, hS, fun t24 n24 => ?_⟩
    have s0 := same_upd (o := .lst (cutV (ns.map V.int) none (some (6 : Int)))) n24
    have ec : (upd H t24 (.lst (cutV (ns.map V.int) none (some (6 : Int))))) t24 = some (.lst (cutV (ns.map V.int) none (some (6 : Int)))) := upd_same
    generalize upd H t24 (.lst (cutV (ns.map V.int) none (some (6 : Int)))) = H25 at s0 ec ⊢
    refine ⟨(by show 1 ≤ sizeLine; decide), fun t25 n25 => ?_⟩
    have sa := same_upd (o := .lst [V.int 7]) n25
    replace s0 := s0.trans sa
    replace ec := sa _ _ ec
    have el : (upd H25 t25 (.lst [V.int 7])) t25 = some (.lst [V.int 7]) := upd_same
    clear sa
    generalize upd H25 t25 (.lst [V.int 7]) = H26 at s0 ec el ⊢
    refine ⟨_, rfl, Nat.zero_le _, fun t26 n26 => ?_⟩
    have sa := same_upd (o := .lst []) n26
    replace s0 := s0.trans sa
    replace ec := sa _ _ ec
    replace el := sa _ _ el
    have ee : (upd H26 t26 (.lst [])) t26 = some (.lst []) := upd_same
    clear sa
    generalize upd H26 t26 (.lst []) = H27 at s0 ec el ee ⊢
    refine ⟨_, _, .lst (s0.seq hS) (dp_ints ns), .lst (xs := []) (.inl (.inl ee)) .nil, ints_lay ns, rfl, .inr ⟨_, rfl, t25, _, [V.int 7], rfl, rfl, el, ?z1, ?z2, ?z3, fun t27 n27 => ?_⟩⟩
    case z1 => split <;> decide
    case z2 => split <;> decide
    case z3 => split <;> decide
    have sa := same_upd (o := .lst (List.replicate (if PyData.eqv (.list (ns.map PyData.int)) (.list []) = true then (1 : Int) else 0).toNat [V.int 7]).flatten) n27
    replace s0 := s0.trans sa
    replace ec := sa _ _ ec
    have er : (upd H27 t27 (.lst (List.replicate (if PyData.eqv (.list (ns.map PyData.int)) (.list []) = true then (1 : Int) else 0).toNat [V.int 7]).flatten)) t27 = some (.lst (List.replicate (if PyData.eqv (.list (ns.map PyData.int)) (.list []) = true then (1 : Int) else 0).toNat [V.int 7]).flatten) := upd_same
    clear sa
    generalize upd H27 t27 (.lst (List.replicate (if PyData.eqv (.list (ns.map PyData.int)) (.list []) = true then (1 : Int) else 0).toNat [V.int 7]).flatten) = H28 at s0 ec er ⊢
    have hrl : (List.replicate (if PyData.eqv (.list (ns.map PyData.int)) (.list []) = true then (1 : Int) else 0).toNat [V.int 7]).flatten.length ≤ 1 := by
      split <;> decide
    have hcl : (cutV (ns.map V.int) none (some (6 : Int))).length ≤ ns.length := by
      have h := List.length_map (f := V.int) (as := ns)
      unfold cutV
      rw [List.length_take, List.length_drop]
      omega
    refine ⟨t24, t27, _, _, rfl, rfl, ec, er, ?z4, fun t28 n28 => ?_⟩
    case z4 =>
      exact Nat.le_of_lt (small1000 (by omega))
    obtain ⟨cells, hcells⟩ : ∃ cells : List V, cells = cutV (ns.map V.int) none (some (6 : Int)) ++ (List.replicate (if PyData.eqv (.list (ns.map PyData.int)) (.list []) = true then (1 : Int) else 0).toNat [V.int 7]).flatten := ⟨_, rfl⟩
    have hxs : ∀ x ∈ cells, ∃ c, x = V.int c := by
      intro x hx
      rw [hcells, List.mem_append] at hx
      rcases hx with hx | hx
      · obtain ⟨i, hi⟩ := List.getElem?_of_mem hx
        obtain ⟨c, _, e⟩ := List.mem_map.mp (cut_mem hi)
        exact ⟨c, e.symm⟩
      · obtain ⟨l, h1, h2⟩ := List.mem_flatten.mp hx
        rw [(List.mem_replicate.mp h1).2, List.mem_singleton] at h2
        exact ⟨7, h2⟩
    have hxl : cells.length ≤ 100 := by
      rw [hcells, List.length_append]
      omega
    rw [← hcells]
    replace s0 := s0.trans (same_upd (o := .lst cells) n28)
    have ep : (upd H28 t28 (.lst cells)) t28 = some (.lst cells) := upd_same
    generalize upd H28 t28 (.lst cells) = HC at s0 ep ⊢
    clear ec er hrl hcells
    refine ⟨t28, cells, rfl, .inl (.inl ep), ?_⟩
    refine for_it walk_enum (fun i σ H' => Same HC H' ∧ ∃ y1 y2 y3 y4 y5 y6 y7 y8 y9 y10 y11 : Option V, σ = [some (.ref a), y1, y2, y3, y4, y5, y6, y7, y8, y9, y10, y11]) ⟨Same.refl _, _, _, _, _, _, _, _, _, _, _, _, rfl⟩ (fun i σ H' _ h => .inl (.inl (h.1 _ _ ep))) ?_ ?_
    · rintro i x σ Ha Hb hi ⟨s6, y1, y2, y3, y4, y5, y6, y7, y8, y9, y10, y11, rfl⟩ ⟨t, kk, x, rfl, ht, rfl, hk, hx⟩
      obtain ⟨c, rfl⟩ := hxs x (List.mem_of_getElem? hx)
      have ek : kk = .int (i : Nat) := (Option.some.inj hk).symm
      subst ek
      have hi100 : i < 100 := by omega
      have s7 := s6.trans (same_upd (o := .tup [.int (i : Nat), .int c]) ht)
      refine ⟨t, _, rfl, .inl (.inl upd_same), rfl, _, _, rfl, _, [], rfl, rfl, ?_⟩
      generalize upd Ha t (.tup [.int (i : Nat), .int c]) = Hc at s7 ⊢
      refine ⟨_, rfl, _, rfl, _, _, rfl, rfl, c, _, _, rfl, ⟨by omega, by omega⟩, ⟨by decide, by decide⟩, fun R H3 p sR' k sH => ?_⟩
      have g : Go p R H3 R H3 := k.go
      refine ⟨(by show 1 ≤ sizeLine; decide), fun t1 ht1 => ?_⟩
      obtain ⟨gi, dt1⟩ := tup_new (K := K) (vs := [.str "come"]) (ds := [.str "come"]) g.rest ht1 (.cons (.str _) .nil)
      replace g := g.trans gi
      refine ⟨(by show 1 ≤ sizeLine; decide), fun t2 ht2 => ?_⟩
      obtain ⟨gi, dt2⟩ := tup_new (K := K) (vs := [.str "step"]) (ds := [.str "step"]) g.rest ht2 (.cons (.str _) .nil)
      replace g := g.trans gi
      replace dt1 := dp_same gi.same _ _ dt1
      refine ⟨_, rfl, p, 14, _, rfl, by decide, g.rest, fun n H4 n0 n1 gi => ?_⟩
      replace g := g.trans gi
      replace dt1 := dp_same gi.same _ _ dt1
      replace dt2 := dp_same gi.same _ _ dt2
      refine ⟨(by show 2 ≤ sizeLine; decide), fun t3 ht3 => ?_⟩
      obtain ⟨gi, dt3⟩ := tup_new (K := K) (vs := [.str "go", .int n]) (ds := [.str "go", .int n]) g.rest ht3 (.cons (.str _) (.cons (.int _) .nil))
      replace g := g.trans gi
      replace dt1 := dp_same gi.same _ _ dt1
      replace dt2 := dp_same gi.same _ _ dt2
      refine ⟨(by show 2 ≤ sizeLine; decide), fun t4 ht4 => ?_⟩
      obtain ⟨gi, dt4⟩ := tup_new (K := K) (vs := [.str "begin", .str "w"]) (ds := [.str "begin", .str "w"]) g.rest ht4 (.cons (.str _) (.cons (.str _) .nil))
      replace g := g.trans gi
      replace dt1 := dp_same gi.same _ _ dt1
      replace dt2 := dp_same gi.same _ _ dt2
      replace dt3 := dp_same gi.same _ _ dt3
      refine ⟨(by show 2 ≤ sizeLine; decide), fun t5 ht5 => ?_⟩
      obtain ⟨gi, dt5⟩ := tup_new (K := K) (vs := [.str "run", .str "wwwwwwww"]) (ds := [.str "run", .str "wwwwwwww"]) g.rest ht5 (.cons (.str _) (.cons (.str _) .nil))
      replace g := g.trans gi
      replace dt1 := dp_same gi.same _ _ dt1
      replace dt2 := dp_same gi.same _ _ dt2
      replace dt3 := dp_same gi.same _ _ dt3
      replace dt4 := dp_same gi.same _ _ dt4
      refine ⟨(by show 1 ≤ sizeLine; decide), fun t6 ht6 => ?_⟩
      obtain ⟨gi, dt6⟩ := tup_new (K := K) (vs := [.str "come"]) (ds := [.str "come"]) g.rest ht6 (.cons (.str _) .nil)
      replace g := g.trans gi
      replace dt1 := dp_same gi.same _ _ dt1
      replace dt2 := dp_same gi.same _ _ dt2
      replace dt3 := dp_same gi.same _ _ dt3
      replace dt4 := dp_same gi.same _ _ dt4
      replace dt5 := dp_same gi.same _ _ dt5
      refine ⟨(by show 6 ≤ sizeLine; decide), fun LG hLG => ?_⟩
      obtain ⟨gi, lG⟩ := ld_new (K := K) (vs := [V.ref t1, V.ref t2, V.ref t3, V.ref t4, V.ref t5, V.ref t6]) (ds := (goodD n)) g.rest hLG (.cons dt1 (.cons dt2 (.cons dt3 (.cons dt4 (.cons dt5 (.cons dt6 .nil))))))
      replace g := g.trans gi
      refine ⟨(by show 2 ≤ sizeLine; decide), fun t7 ht7 => ?_⟩
      obtain ⟨gi, dt7⟩ := tup_new (K := K) (vs := [.str "go", .int (14)]) (ds := [.str "go", .int (14)]) g.rest ht7 (.cons (.str _) (.cons (.int _) .nil))
      replace g := g.trans gi
      replace lG := lG.same gi.same
      refine ⟨_, rfl, (by show 2 ≤ sizeLine; decide), fun t8 ht8 => ?_⟩
      obtain ⟨gi, dt8⟩ := tup_new (K := K) (vs := [.str "go", .int (-1)]) (ds := [.str "go", .int (-1)]) g.rest ht8 (.cons (.str _) (.cons (.int _) .nil))
      replace g := g.trans gi
      replace lG := lG.same gi.same
      replace dt7 := dp_same gi.same _ _ dt7
      refine ⟨(by show 2 ≤ sizeLine; decide), fun t9 ht9 => ?_⟩
      obtain ⟨gi, dt9⟩ := tup_new (K := K) (vs := [.str "begin", .str ""]) (ds := [.str "begin", .str ""]) g.rest ht9 (.cons (.str _) (.cons (.str _) .nil))
      replace g := g.trans gi
      replace lG := lG.same gi.same
      replace dt7 := dp_same gi.same _ _ dt7
      replace dt8 := dp_same gi.same _ _ dt8
      refine ⟨(by show 2 ≤ sizeLine; decide), fun t10 ht10 => ?_⟩
      obtain ⟨gi, dt10⟩ := tup_new (K := K) (vs := [.str "run", .int (5)]) (ds := [.str "run", .int (5)]) g.rest ht10 (.cons (.str _) (.cons (.int _) .nil))
      replace g := g.trans gi
      replace lG := lG.same gi.same
      replace dt7 := dp_same gi.same _ _ dt7
      replace dt8 := dp_same gi.same _ _ dt8
      replace dt9 := dp_same gi.same _ _ dt9
      refine ⟨(by show 1 ≤ sizeLine; decide), fun t11 ht11 => ?_⟩
      obtain ⟨gi, dt11⟩ := tup_new (K := K) (vs := [.str "out"]) (ds := [.str "out"]) g.rest ht11 (.cons (.str _) .nil)
      replace g := g.trans gi
      replace lG := lG.same gi.same
      replace dt7 := dp_same gi.same _ _ dt7
      replace dt8 := dp_same gi.same _ _ dt8
      replace dt9 := dp_same gi.same _ _ dt9
      replace dt10 := dp_same gi.same _ _ dt10
      refine ⟨(by show 6 ≤ sizeLine; decide), fun LO hLO => ?_⟩
      obtain ⟨gi, lA⟩ := ld_new (K := K) (vs := [V.ref t7, V.ref t8, V.ref t9, V.ref t10, V.ref t11, V.non]) (ds := (oddD.take 6)) g.rest hLO (.cons dt7 (.cons dt8 (.cons dt9 (.cons dt10 (.cons dt11 (.cons .non .nil))))))
      replace g := g.trans gi
      replace lG := lG.same gi.same
      refine ⟨_, rfl, ?_⟩
      refine ⟨(by show 1 ≤ sizeLine; decide), fun t12 ht12 => ?_⟩
      obtain ⟨gi, dt12⟩ := lst_new (K := K) (vs := [.str "come"]) (ds := [.str "come"]) g.rest ht12 (.cons (.str _) .nil)
      replace g := g.trans gi
      replace lG := lG.same gi.same
      replace lA := lA.same gi.same
      refine ⟨(by show 0 ≤ sizeLine; decide), fun t13 ht13 => ?_⟩
      obtain ⟨gi, dt13⟩ := tup_new (K := K) (vs := []) (ds := []) g.rest ht13 .nil
      replace g := g.trans gi
      replace lG := lG.same gi.same
      replace lA := lA.same gi.same
      replace dt12 := dp_same gi.same _ _ dt12
      refine ⟨(by show 2 ≤ sizeLine; decide), fun t14 ht14 => ?_⟩
      obtain ⟨gi, dt14⟩ := tup_new (K := K) (vs := [.str "step", .int (1)]) (ds := [.str "step", .int (1)]) g.rest ht14 (.cons (.str _) (.cons (.int _) .nil))
      replace g := g.trans gi
      replace lG := lG.same gi.same
      replace lA := lA.same gi.same
      replace dt12 := dp_same gi.same _ _ dt12
      replace dt13 := dp_same gi.same _ _ dt13
      refine ⟨(by show 2 ≤ sizeLine; decide), fun t15 ht15 => ?_⟩
      obtain ⟨gi, dt15⟩ := tup_new (K := K) (vs := [.str "go", .bl true]) (ds := [.str "go", .bool true]) g.rest ht15 (.cons (.str _) (.cons (.bl _) .nil))
      replace g := g.trans gi
      replace lG := lG.same gi.same
      replace lA := lA.same gi.same
      replace dt12 := dp_same gi.same _ _ dt12
      replace dt13 := dp_same gi.same _ _ dt13
      replace dt14 := dp_same gi.same _ _ dt14
      refine ⟨(by show 4 ≤ sizeLine; decide), fun LP hLP => ?_⟩
      obtain ⟨gi, lB⟩ := ld_new (K := K) (vs := [V.ref t12, V.ref t13, V.ref t14, V.ref t15]) (ds := (oddD.drop 6)) g.rest hLP (.cons dt12 (.cons dt13 (.cons dt14 (.cons dt15 .nil))))
      replace g := g.trans gi
      replace lG := lG.same gi.same
      replace lA := lA.same gi.same
      refine catL (K := K) g.rest lA lB (by decide) fun xO R5 H5 gi lO => ?_
      replace g := g.trans gi
      replace lG := lG.same gi.same
      replace lO : LD K _ xO oddD := lO
      obtain ⟨xg, eG, aG⟩ : ∃ xs : List V, R5 LG = some (.lst xs) ∧ DpAll K R5 xs (goodD n) := by
        obtain ⟨a9, vs9, h1, h2, h3⟩ := lG
        cases h1
        exact ⟨vs9, h2, h3⟩
      have hxg : 0 < xg.length := by rw [dpAll_len aG]; exact Nat.succ_pos 5
      obtain ⟨LO2, xo, rfl, eO, aO⟩ := id lO
      have hxo : 0 < xo.length := by rw [dpAll_len aO]; decide
      have hgd := good_all n0 n1
      refine ⟨2, rfl, by decide, by decide, fun DS hDS => ?_⟩
      refine lc_go walk_range (n := (2 : Int).toNat) (by decide) g.rest hDS (fun _ _ _ => trivial) (TupG K n) (fun _ _ _ s h => h.same s) ?_ ?_
      · rintro m x R9 H9 H9' hm g3 ⟨rfl, rfl⟩ C' E' hC
        refine ⟨rfl, yes_then ⟨_, rfl, p, 9, R9, rfl, by decide, g3.rest, fun r9 H10 r90 r91 g4 => ⟨_, rfl, by omega, by omega, fun D2 hD2 => ?_⟩⟩⟩
        refine lc_go walk_range (n := r9.toNat) (by omega) g4.rest hD2 (fun _ _ _ => trivial) (fun R' y => ∃ d ∈ goodD n, Dp K R' y d) (fun _ _ _ s h => h.elim fun d h => ⟨d, h.1, dp_same s _ _ h.2⟩) ?_ ?_
        · rintro m2 x2 R11 H11 H11' hm2 g5 ⟨rfl, rfl⟩ C2 E2 hC2
          have s11 : Same R5 R11 := g3.same.trans (g4.same.trans g5.same)
          exact ⟨rfl, yes_then ⟨_, rfl, _, rfl, p, LG, R11, xg, rfl, .inl (.inl (s11 _ _ eG)), hxg, g5.rest, fun x H' hx g6 => hC2 _ _ _ g6 (dpAll_mem (dpAll_same (s11.trans g6.same) _ _ aG) hx)⟩⟩
        · intro R12 H12 ys g6 eD2 hl hP
          obtain ⟨ds, h1, h2, h3⟩ := dpAll_pick hP
          refine ⟨D2, ys, rfl, .inl (.inl (g6.rest.1 _ _ eD2)), fun l hl2 => ?_⟩
          obtain ⟨g7, d7⟩ := tup_new (K := K) g6.rest hl2 h1
          exact hC _ _ _ (g4.trans (g6.trans g7)) ⟨ds, d7, by omega, h3⟩
      intro R6 H6 ys gi eS hl hP
      obtain ⟨u0, u1, rfl⟩ : ∃ u0 u1, ys = [u0, u1] := by
        match ys, hl with
        | [a, b], _ => exact ⟨a, b, rfl⟩
      obtain ⟨ds0, v0, l0, m0⟩ := hP u0 (by simp)
      obtain ⟨ds1, v1, l1, m1⟩ := hP u1 (by simp)
      replace g := g.trans gi
      replace eG := gi.same _ _ eG
      replace aG := dpAll_same gi.same _ _ aG
      replace eO := gi.same _ _ eO
      replace aO := dpAll_same gi.same _ _ aO
      have gl : ∀ ds : List PyData, ds.length ≤ 20 → (∀ d ∈ ds, GG.Good 20 d) → GG.Good 60 (.tuple ds) := fun ds h1 h2 => good_t (n := 59) (by omega) fun d hd => (h2 d hd).mono (by decide)
      have gl0 := gl ds0 (by omega) fun d hd => (hgd d (m0 d hd)).2
      have gl1 := gl ds1 (by omega) fun d hd => (hgd d (m1 d hd)).2
      have sq : ∀ {R' H'}, Go p R6 H6 R' H' → SqL K H' DS [u0, u1] := fun g' => .inl (.inl (g'.rest.1 _ _ (g'.same _ _ eS)))
      have gd := gi.rest.go
      refine ⟨_, rfl, DS, [u0, u1], 0, u0, rfl, rfl, sq gi.rest.go, rfl, _, rfl, DS, [u0, u1], 1, u1, rfl, rfl, sq gi.rest.go, rfl, ?_⟩
      clear gd
      refine ⟨u0, u1, ds0, ds1, rfl, .inl ⟨dp_same g.rest.1 _ _ v0, gl0⟩, .inl ⟨dp_same g.rest.1 _ _ v1, gl1⟩, by omega, by omega, fun d hd => (hgd d (m0 d hd)).1, fun d hd => (hgd d (m1 d hd)).1, fun H7 s7' => ⟨_, rfl, iteF ?_⟩⟩
      have k6 := gi.rest
      have g7 := Go.same_heap k6 s7'
      obtain ⟨a0, xs0, rfl, q0, w0⟩ : ∃ (a : Addr) (xs : List V), u0 = .ref a ∧ SqT K R6 a xs ∧ DpAll K R6 xs ds0 := by
        cases v0 with
        | tup h1 h2 => exact ⟨_, _, rfl, h1, h2⟩
      have e0 := dpAll_len w0
      -- at
      refine ⟨_, rfl, _, rfl, DS, [.ref a0, u1], 0, _, rfl, rfl, sq g7, rfl, a0, xs0, rfl, .inr (Same.seqT (g7.same.trans g7.rest.1) q0), _, _, rfl, rfl, p, _, R6, rfl, by omega, g7.rest, fun at_ H8 at0 at1 g8 => ?_⟩
      have g78 := g7.trans g8
      obtain ⟨j, rfl, hj⟩ : ∃ j : Nat, at_ = (j : Int) ∧ j ≤ ds0.length := ⟨at_.toNat, by rw [Int.toNat_of_nonneg at0], by omega⟩
      refine ⟨_, rfl, DS, [.ref a0, u1], 0, _, rfl, rfl, sq g78, rfl, _, rfl, _, rfl, slice_ok (K := K) g78.rest v0 fun x1 R9 H9 g9 z1 => ?_⟩
      have g79 := g78.trans g9
      refine ⟨_, rfl, _, rfl, p, LO2, R9, xo, rfl, .inl (.inl (g79.same _ _ eO)), hxo, g79.rest, fun od H10 hod g10 => ⟨(by show 1 ≤ sizeLine; decide), fun t20 ht20 => ?_⟩⟩
      have g710 := g79.trans g10
      obtain ⟨d0, hd0, f0⟩ := dpAll_mem (dpAll_same (g79.same.trans g10.same) _ _ aO) hod
      obtain ⟨g11, z2⟩ := tup_new (K := K) (vs := [od]) (ds := [d0]) g710.rest ht20 (.cons f0 .nil)
      have g711 := g710.trans g11
      refine cat_ok (K := K) g711.rest (dp_same (g10.same.trans g11.same) _ _ z1) z2 (by have := cutG_len ds0 none (some (j : Int)); rw [List.length_singleton]; omega) fun x3 R12 H12 g12 z3 => ?_
      have g712 := g711.trans g12
      refine ⟨_, rfl, DS, [.ref a0, u1], 0, _, rfl, rfl, sq g712, rfl, _, rfl, _, rfl, slice_lo (K := K) g712.rest (dp_same g712.same _ _ v0) fun x4 R13 H13 g13 z4 => ?_⟩
      have g713 := g712.trans g13
      have c1 := cutG_len ds0 none (some (j : Int))
      have c2 := cutG_len ds0 (some (j : Int)) none
      refine cat_ok (K := K) g713.rest (dp_same g13.same _ _ z3) z4 (by rw [List.length_append, List.length_singleton]; omega) fun x5 R14 H14 g14 z5 => ⟨(by show 1 ≤ sizeLine; decide), fun t21 ht21 => ?_⟩
      have g714 := g713.trans g14
      obtain ⟨g15, z6⟩ := tup_new (K := K) (vs := [.non]) (ds := [.none]) g714.rest ht21 (.cons .non .nil)
      have g715 := g714.trans g15
      refine cat_ok (K := K) g715.rest (dp_same g15.same _ _ z5) z6 (by simp only [List.length_append, List.length_singleton]; omega) fun x7 R16 H16 g16 z7 => ?_
      have g716 := g715.trans g16
      have aG9 := dpAll_same g716.same _ _ aG
      have aO9 := dpAll_same g716.same _ _ aO
      have eG9 := g716.same _ _ eG
      have eO9 := g716.same _ _ eO
      have gAll := g.trans g716
      rw [cutG_lo ds0 (Int.natCast_nonneg j) (by omega), Int.toNat_natCast] at z7
      obtain ⟨o1, o2, o3⟩ := odd_all d0 hd0
      obtain ⟨sp, hsp⟩ : ∃ sp, sp = ds0.take j ++ [d0] ++ cutG ds0 (some (j : Int)) none ++ [PyData.none] := ⟨_, rfl⟩
      have htl : (ds0.take j).length = j := by rw [List.length_take]; omega
      have hat : sp[j]? = some d0 := by
        rw [hsp, List.append_assoc, List.append_assoc, List.getElem?_append_right (by omega), htl, Nat.sub_self]
        rfl
      have hbad : BadAt sp j := ⟨⟨d0, hat, o1⟩, fun i2 d hi2 hd => by
        rw [hsp, List.append_assoc, List.append_assoc, List.getElem?_append_left (by omega)] at hd
        exact (hgd d (m0 d (List.mem_of_mem_take (List.mem_of_getElem? hd)))).1⟩
      have hspl : sp.length ≤ 20 := by
        rw [hsp]
        simp only [List.length_append, List.length_singleton]
        omega
      have hgs : GG.Good 60 (.tuple sp) := gl sp hspl fun d hd => by
        rw [hsp] at hd
        simp only [List.mem_append, List.mem_singleton] at hd
        rcases hd with ((hd | rfl) | hd) | rfl
        · exact (hgd d (m0 d (List.mem_of_mem_take hd))).2
        · exact o2
        · exact (hgd d (m0 d (cutG_mem hd))).2
        · exact ⟨by decide +kernel, by decide +kernel⟩
      rw [← hsp] at z7
      have otx := odd_text d0 hd0
      clear z1 z2 z3 z4 z5 z6 g15 g714 g14 g713 g13 g712 g12 g711 g11 g710 g10 g79 g9 g78 g8 g7 f0
      obtain ⟨a7, x7s, rfl, q7, w7⟩ : ∃ (a : Addr) (xs : List V), x7 = .ref a ∧ SqT K R16 a xs ∧ DpAll K R16 xs sp := by
        cases z7 with
        | tup h1 h2 => exact ⟨_, _, rfl, h1, h2⟩
      have k16 := g716.rest
      have sR : Same R16 H16 := k16.1
      have self_eq : ∀ d, SeqAt.shaped d = true → PyData.eqv d d = true := fun d h => SeqAt.eqv_refl _ (SeqAt.canLay_of_shaped h)
      have lD : ∀ (H' : Hp) (l : Addr), H' l = some (.lst [.str d0.shown]) → Dp K H' (.ref l) (.list [.str d0.shown]) := fun H' l e => .lst (.inl (.inl e)) (.cons (.str _) .nil)
      refine ⟨_, rfl, a7, x7s, sp, j, d0, rfl, Same.seqT (sR.trans (Same.refl _)) q7, dpAll_same (sR.trans (Same.refl _)) _ _ w7, hgs, hbad, hat, o3, fun H17 l17 s17 _ e17 => ⟨_, rfl, a7, x7s, sp, j, d0, rfl, Same.seqT (sR.trans s17) q7, dpAll_same (sR.trans s17) _ _ w7, hgs, hbad, hat, o3, fun H18 l18 s18 _ e18 => ?_⟩⟩
      have s168 := s17.trans s18
      refine ⟨.list [.str d0.shown], .list [.str d0.shown], lD _ _ (s18 _ _ e17), lD _ _ e18, otx, otx, _, rfl, iteB (c := false) (by rw [self_eq _ otx]; rfl) (iteF ?_)⟩
      refine made_run (xs := []) (ds := []) .nil ⟨by decide +kernel, by decide +kernel⟩ (fun _ H19 r9 s19 n19 row9 => ?_) (fun i v hb => (no_bad (ds := []) (fun d hd => by cases hd) hb).elim)
      have s169 := s168.trans s19
      have v7 : Val K H19 (.ref a7) (.tuple sp) := .inl ⟨.tup (Same.seqT (sR.trans s169) q7) (dpAll_same (sR.trans s169) _ _ w7), hgs⟩
      refine ⟨_, rfl, r9, .ref a7, [], d0, rfl, row9, .inl ⟨sp, j, v7, by rw [List.length_nil]; omega, hbad, hat, o3⟩, fun H20 l20 s20 n20 e20 => ⟨_, rfl, a7, x7s, sp, j, d0, rfl, Same.seqT (sR.trans (s169.trans s20)) q7, dpAll_same (sR.trans (s169.trans s20)) _ _ w7, hgs, hbad, hat, o3, fun H21 l21 s21 _ e21 => ?_⟩⟩
      refine ⟨.list [.str d0.shown], .list [.str d0.shown], lD _ _ (s21 _ _ e20), lD _ _ e21, otx, otx, _, rfl, iteB (c := false) (by rw [self_eq _ otx]; rfl) (iteF ?_)⟩
      have s1621 := s169.trans (s20.trans s21)
      have gZ := Go.same_heap k16 s1621
      -- what is a move
      have lG9 : LD K R16 (.ref LG) (goodD n) := ⟨LG, xg, rfl, eG9, aG9⟩
      have lO9 : LD K R16 (.ref LO2) oddD := ⟨LO2, xo, rfl, eO9, aO9⟩
      refine ⟨_, rfl, _, rfl, catL (K := K) gZ.rest lG9 lO9 (by rw [show (goodD n).length = 6 from rfl]; decide) fun xA R22 H22 g22 lA => ?_⟩
      obtain ⟨LA, xa, rfl, eA, aA⟩ := lA
      have eAH := g22.rest.1 _ _ eA
      refine ⟨LA, rfl, ⟨_, .inl (.inl eAH)⟩, fun D hD => lc_it (walk_list (xs := xa)) (fun j H' => Same H22 H' ∧ H' D = some (.lst [])) ⟨same_upd hD, upd_same⟩ (fun j H' _ h => .inl (.inl (h.1 _ _ eAH))) ?_ ?_⟩
      · rintro m v _ H23 hm ⟨s23, e23⟩ ⟨rfl, hx⟩
        obtain ⟨d, hd, hv⟩ := dpAll_mem aA (List.mem_of_getElem? hx)
        have hg60 : GG.Good 60 d := by
          rcases List.mem_append.mp hd with h | h
          · exact (hgd d h).2.mono (by decide)
          · exact GG.Good.mono (odd_all d h).2.1 (by decide)
        have hv9 : ∀ H', Same H23 H' → Val K H' v d := fun H' s => .inl ⟨dp_same (g22.rest.1.trans (s23.trans s)) _ _ hv, hg60⟩
        refine ⟨rfl, _, rfl, v, d, rfl, hv9 _ (Same.refl _), fun H24 s24 => ⟨_, rfl, v, d, rfl, hv9 _ s24, fun H25 s25 => ⟨rfl, _, rfl, iteB (c := false) (by simp) (iteF ⟨s23.trans (s24.trans s25), (s24.trans s25) _ _ e23⟩)⟩⟩⟩
      rintro H23 ⟨s23, e23⟩
      refine ⟨Nat.zero_le _, fun l9 hl9 => ⟨.list [], .list [], .lst (.inl (.inl ((same_upd hl9) _ _ e23))) .nil, .lst (.inl (.inl upd_same)) .nil, by decide +kernel, by decide +kernel, _, rfl, iteB (c := false) (by decide +kernel) (iteF ?_)⟩⟩
      refine ⟨?_, _, _, _, _, _, _, _, _, _, _, _, rfl⟩
      have sF := s23.trans (same_upd (o := .lst []) hl9)
      exact s7.trans (sR'.trans ((gAll.same.trans (gZ.trans g22).same).trans (g22.rest.1.trans sF)))

    · rintro σ Ha ⟨s6, y1, y2, y3, y4, y5, y6, y7, y8, y9, y10, y11, rfl⟩
      have cl := M.ct.cl
      have tc := M.ty
      have okMV : ∀ d ∈ ([.tuple [.str "come"], .tuple [.str "step"]] : List PyData), isMoveP d = true := by decide +kernel
      have goodMV : GG.Good 60 (.tuple [.tuple [.str "come"], .tuple [.str "step"]]) := ⟨by decide +kernel, by decide +kernel⟩
      have okN : ∀ d ∈ ([] : List PyData), isMoveP d = true := fun d hd => by cases hd
      refine made_run (xs := []) (ds := []) .nil ⟨by decide +kernel, by decide +kernel⟩ (fun _ H1 r1 s1 n1 row1 => ?_) (fun i v hb => (no_bad okN hb).elim)
      obtain ⟨dx1, p1, k1, _⟩ := id row1
      refine ⟨r1, dx1, _, rfl, k1, r1, [], rfl, row1, 0, rfl, by decide, rfl, _, rfl, iteB (c := true) (by decide +kernel) (iteT ?_)⟩
      refine ⟨(by show 1 ≤ sizeLine; decide), fun t1 h1 => ⟨(by show 1 ≤ sizeLine; decide), fun t2 h2 => ?_⟩⟩
      have d1 : Dp K (upd H1 t1 (.tup [.str "come"])) (.ref t1) (.tuple [.str "come"]) := .tup (.inl (.inl upd_same)) (.cons (.str _) .nil)
      have s2 := same_upd (o := .tup [V.str "step"]) h2
      have d2 : Dp K (upd (upd H1 t1 (.tup [.str "come"])) t2 (.tup [.str "step"])) (.ref t2) (.tuple [.str "step"]) := .tup (.inl (.inl upd_same)) (.cons (.str _) .nil)
      refine made_run (xs := [.ref t1, .ref t2]) (ds := [.tuple [.str "come"], .tuple [.str "step"]]) (.cons (dp_same s2 _ _ d1) (.cons d2 .nil)) goodMV (fun _ H2 r2 s3 n2 row2 => ?_) (fun i v hb => (no_bad okMV hb).elim)
      refine ⟨rfl, (by show 1 ≤ sizeLine; decide), fun t3 h3 => ⟨(by show 1 ≤ sizeLine; decide), fun t4 h4 => ⟨(by show 2 ≤ sizeLine; decide), fun l5 h5 => ?_⟩⟩⟩
      have u3 := same_upd (o := .tup [V.str "come"]) h3
      have u4 := same_upd (o := .tup [V.str "step"]) h4
      have u5 := same_upd (o := .lst [V.ref t3, V.ref t4]) h5
      have d3 : Dp K (upd H2 t3 (.tup [.str "come"])) (.ref t3) (.tuple [.str "come"]) := .tup (.inl (.inl upd_same)) (.cons (.str _) .nil)
      have d4 : Dp K (upd (upd H2 t3 (.tup [.str "come"])) t4 (.tup [.str "step"])) (.ref t4) (.tuple [.str "step"]) := .tup (.inl (.inl upd_same)) (.cons (.str _) .nil)
      refine ⟨l5, [.ref t3, .ref t4], [.tuple [.str "come"], .tuple [.str "step"]], rfl, .inr (.inl (.inl upd_same)), .cons (dp_same (u4.trans u5) _ _ d3) (.cons (dp_same u5 _ _ d4) .nil), goodMV, fun _ H3 r3 s4 n3 row3 => ?_, fun i v hb => (no_bad okMV hb).elim⟩
      have row2 := row2.same (u3.trans (u4.trans (u5.trans s4)))
      obtain ⟨dx2, p2, k2, _⟩ := id row2
      refine ⟨r2, dx2, _, _, rfl, k2, row3.ty cl tc, not_self, r2, .ref r3, _, rfl, row2, .inl ⟨r3, _, rfl, row3, _, rfl, _, rfl, iteB (c := true) (by decide +kernel) (iteT ?_)⟩⟩
      refine made_run (xs := []) (ds := []) .nil ⟨by decide +kernel, by decide +kernel⟩ (fun _ H4 r4 s5 n4 row4 => ?_) (fun i v hb => (no_bad okN hb).elim)
      refine ⟨Nat.zero_le _, fun t6 h6 => ?_⟩
      have row4 := row4.same (same_upd (o := .tup []) h6)
      have v6 : Val K (upd H4 t6 (.tup [])) (.ref t6) (.tuple []) := .inl ⟨.tup (.inl (.inl upd_same)) .nil, ⟨by decide +kernel, by decide +kernel⟩⟩
      obtain ⟨dx4, p4, k4, _⟩ := id row4
      exact ⟨r4, dx4, _, _, rfl, k4, v6.ty, nf, r4, .ref t6, _, rfl, row4, .inr ⟨_, v6.ty, M.far (.tuple []), _, rfl, q _⟩⟩
end
end K12

namespace K12
open PySem PySem.Spec PyProof.Rows StX L2 TL GG OO
theorem te_of {K : PySem.W.Frag} {S : Addr} (ex : PySem.W.subIn K (.ref S) (.type "BaseException") = some true) (ic : PySem.W.isClsIn K S = true) (ty : PySem.W.typeIn K (.ref S) = some (.type "type")) (ss : PySem.W.subIn K (.ref S) (.ref S) = some true) : PySem.W.exmOne K (.ref S) (.ref S) = some true := by
  have e1 : (PySem.W.subIn K (.ref S) (.type "BaseException") == some true) = true := by rw [ex] <;> rfl
  have e2 : ((PySem.W.clsIn K S).isSome && PySem.W.typeIn K (.ref S) == some (.type "type")) = true := by
    have h2' : (PySem.W.clsIn K S).isSome = true := ic
    rw [h2', ty] <;> rfl
  show (if (PySem.W.subIn K (.ref S) (.type "BaseException") == some true) = true then (if ((PySem.W.clsIn K S).isSome && PySem.W.typeIn K (.ref S) == some (.type "type")) = true then PySem.W.subIn K (.ref S) (.ref S) else none) else none) = some true
  rw [if_pos e1, if_pos e2]
  exact ss
end K12

namespace K12
open PySem PySem.Spec PyProof.Rows StX L2 TL GG OO
theorem all_mk {l : PySem.W.OpenLaw} {w : World} {K : PySem.W.Frag} {h : Heap} {mg : Str → Option Value} {fa : Addr} {pe S MS N MN C sCof pChands f1 f2 f3 f4 f5 f6 f7 f8 f9 f10 f11 f12 f13 f14 f15 f16 f17 f18 f19 f20 f21 f22 f23 f24 f25 f26 f27 f28 f29 f30 : Addr} {lt0 lt1 : Tok} {nnS qS nnN qN : Str} {bsS subS bsN subN rsCof rpChands : List Value} {snS snN : List Str} {abS abN : Bool} {colS colN : Option Bool} {ddS ddN od1 an1 od2 an2 od3 an3 od4 an4 od5 an5 od6 an6 od7 an7 od8 an8 od9 an9 od10 an10 od11 an11 od12 an12 od13 an13 od14 an14 od15 an15 od16 an16 od17 an17 od18 an18 od19 an19 od20 an20 od21 an21 od22 an22 od23 an23 od24 an24 od25 an25 od26 an26 od27 an27 od28 an28 od29 an29 od30 an30 : Option Addr} {u0S u1S u2S u3S u5S u0N u1N u2N u3N u5N : Option Value} {sl1 sl2 sl3 sl4 sl5 sl6 sl7 sl8 sl9 sl10 sl11 sl12 sl13 sl14 sl15 sl16 sl17 sl18 sl19 sl20 sl21 sl22 sl23 sl24 sl25 sl26 sl27 sl28 sl29 sl30 : Array (Option Value)} {oc1 kV1 dc1 pm1 cd1 ct1 oc2 kV2 dc2 pm2 cd2 ct2 oc3 kV3 dc3 pm3 cd3 ct3 oc4 kV4 dc4 pm4 cd4 ct4 oc5 kV5 dc5 pm5 cd5 ct5 oc6 kV6 dc6 pm6 cd6 ct6 oc7 kV7 dc7 pm7 cd7 ct7 oc8 kV8 dc8 pm8 cd8 ct8 oc9 kV9 dc9 pm9 cd9 ct9 oc10 kV10 dc10 pm10 cd10 ct10 oc11 kV11 dc11 pm11 cd11 ct11 oc12 kV12 dc12 pm12 cd12 ct12 oc13 kV13 dc13 pm13 cd13 ct13 oc14 kV14 dc14 pm14 cd14 ct14 oc15 kV15 dc15 pm15 cd15 ct15 oc16 kV16 dc16 pm16 cd16 ct16 oc17 kV17 dc17 pm17 cd17 ct17 oc18 kV18 dc18 pm18 cd18 ct18 oc19 kV19 dc19 pm19 cd19 ct19 oc20 kV20 dc20 pm20 cd20 ct20 oc21 kV21 dc21 pm21 cd21 ct21 oc22 kV22 dc22 pm22 cd22 ct22 oc23 kV23 dc23 pm23 cd23 ct23 oc24 kV24 dc24 pm24 cd24 ct24 oc25 kV25 dc25 pm25 cd25 ct25 oc26 kV26 dc26 pm26 cd26 ct26 oc27 kV27 dc27 pm27 cd27 ct27 oc28 kV28 dc28 pm28 cd28 ct28 oc29 kV29 dc29 pm29 cd29 ct29 oc30 kV30 dc30 pm30 cd30 ct30 : Value} (X : K.In h) (G : h.Ns mainGlobals mg) (hfa : mg "law" = some (.ref fa))
    (y_lt0 : PySem.W.nsIn K mainGlobals "_LONGEST_NAME" = some (some (.int 8 lt0)))
    (y_lt1 : PySem.W.nsIn K mainGlobals "_HIGHEST_PLACE" = some (some (.int 13 lt1)))
    (z_max : PySem.W.nsIn K mainGlobals "max" = some none)
    (z_range : PySem.W.nsIn K mainGlobals "range" = some none)
    (z_len : PySem.W.nsIn K mainGlobals "len" = some none)
    (z_int : PySem.W.nsIn K mainGlobals "int" = some none)
    (z_bool : PySem.W.nsIn K mainGlobals "bool" = some none)
    (z_isinstance : PySem.W.nsIn K mainGlobals "isinstance" = some none)
    (z_str : PySem.W.nsIn K mainGlobals "str" = some none)
    (z_all : PySem.W.nsIn K mainGlobals "all" = some none)
    (z_tuple : PySem.W.nsIn K mainGlobals "tuple" = some none)
    (z_list : PySem.W.nsIn K mainGlobals "list" = some none)
    (z_enumerate : PySem.W.nsIn K mainGlobals "enumerate" = some none)
    (z_repr : PySem.W.nsIn K mainGlobals "repr" = some none)
    (z_dict : PySem.W.nsIn K mainGlobals "dict" = some none)
    (z_iter : PySem.W.nsIn K mainGlobals "iter" = some none)
    (aS : PySem.W.nsIn K mainGlobals "InvalidMove" = some (some (.ref S)))
    (xS : K.lookup S = some (excClassObj nnS qS S MS bsS (.ref pe :: [.type "ValueError", .type "Exception", .type "BaseException", .type "object"]) true snS subS abS colS ddS u0S u1S u2S u3S u5S "ValueError.__new__"))
    (saS : PySem.W.findIn K (.ref S) "__setattr__" = some (some (.builtin "object.__setattr__")))
    (exS : PySem.W.subIn K (.ref S) (.type "BaseException") = some true)
    (tyS : PySem.W.typeIn K (.ref S) = some (.type "type"))
    (kpS : PySem.W.keepIn K (.ref S) = true)
    (noS : PySem.W.findIn K (.ref S) "move" = some none)
    (gaS : PySem.W.findIn K (.ref S) "__getattribute__" = some (some (.builtin "BaseException.__getattribute__")))
    (ggS : PySem.W.findIn K (.ref S) "__getattr__" = some none)
    (hdS : PySem.W.hasDictIn K S = true)
    (iiS : PySem.W.findIn K (.ref S) "__init__" = some (some (.ref f17)))
    (tiS : PySem.W.typeIn K (.ref f17) = some (.type "function"))
    (icS : PySem.W.isClsIn K S = true)
    (ssS : PySem.W.subIn K (.ref S) (.ref S) = some true)
    (aN : PySem.W.nsIn K mainGlobals "InvalidNumber" = some (some (.ref N)))
    (xN : K.lookup N = some (excClassObj nnN qN N MN bsN [.type "ValueError", .type "Exception", .type "BaseException", .type "object"] true snN subN abN colN ddN u0N u1N u2N u3N u5N "ValueError.__new__"))
    (saN : PySem.W.findIn K (.ref N) "__setattr__" = some (some (.builtin "object.__setattr__")))
    (exN : PySem.W.subIn K (.ref N) (.type "BaseException") = some true)
    (tyN : PySem.W.typeIn K (.ref N) = some (.type "type"))
    (kpN : PySem.W.keepIn K (.ref N) = true)
    (noN : PySem.W.findIn K (.ref N) "value" = some none)
    (gaN : PySem.W.findIn K (.ref N) "__getattribute__" = some (some (.builtin "BaseException.__getattribute__")))
    (ggN : PySem.W.findIn K (.ref N) "__getattr__" = some none)
    (hdN : PySem.W.hasDictIn K N = true)
    (iiN : PySem.W.findIn K (.ref N) "__init__" = some (some (.ref f18)))
    (tiN : PySem.W.typeIn K (.ref f18) = some (.type "function"))
    (icN : PySem.W.isClsIn K N = true)
    (ssN : PySem.W.subIn K (.ref N) (.ref N) = some true)
    (aC : PySem.W.nsIn K mainGlobals "Run" = some (some (.ref C)))
    (pgC : PySem.W.plainGet K C Str.empty = true)
    (hdC : PySem.W.hasDictIn K C = true)
    (poC : PySem.W.plainOver K C = true)
    (saC : PySem.W.findIn K (.ref C) "__setattr__" = some (some (.builtin "object.__setattr__")))
    (nC_moves : PySem.W.findIn K (.ref C) "_moves" = some none)
    (mkC : PySem.W.makesIn K C = true)
    (kpC : PySem.W.keepIn K (.ref C) = true)
    (rdC : PySem.W.readsIn K C (.type "type") = true)
    (gtC : PySem.W.specialIn K (.ref C) "__getattribute__" = some (some (.builtin "type.__getattribute__")))
    (b1sCof : PySem.W.findCls K (.ref C) (.type "type") "of" = some (.get (.builtin "staticmethod.__get__") (.ref sCof) .none (.ref C)))
    (b2sCof : PySem.W.recIn K sCof "staticmethod" = some (.ref f20 :: rsCof))
    (b1pChands : PySem.W.findIn K (.ref C) "hands" = some (some (.ref pChands)))
    (b2pChands : PySem.W.specialIn K (.ref pChands) "__get__" = some (some (.builtin "property.__get__")))
    (b3pChands : PySem.W.takesIn K (.ref pChands) = some true)
    (b4pChands : PySem.W.recIn K pChands "property" = some (.ref f21 :: rpChands))
    (tcC : PySem.W.findIn K (.ref C) "__class__" = some (some (.builtin "object.__class__")))
    (thC : PySem.W.specialIn K (.builtin "object.__class__") "__get__" = some (some (.builtin "getset_descriptor.__get__")))
    (ttC : PySem.W.takesIn K (.builtin "object.__class__") = some true)
    (tmC : PySem.W.mroIn K C (.type "object") = some true)
    (neC : PySem.W.findIn K (.ref C) "__ne__" = some (some (.builtin "object.__ne__")))
    (a1 : PySem.W.nsIn K mainGlobals "is_name" = some (some (.ref f1)))
    (l1 : K.lookup f1 = some ⟨oc1, od1, .func (PySem.W.fnOf "is_name" "is_name" (defArgs s_is_name) (defBody s_is_name) (defScope s_is_name) .none kV1 dc1 pm1 an1 cd1 ct1), sl1⟩)
    (c1 : PySem.W.codeIn K cd1 "is_name" = true)
    (k1 : PySem.W.keepIn K (.ref f1) = true)
    (a2 : PySem.W.nsIn K mainGlobals "is_integer" = some (some (.ref f2)))
    (l2 : K.lookup f2 = some ⟨oc2, od2, .func (PySem.W.fnOf "is_integer" "is_integer" (defArgs s_is_integer) (defBody s_is_integer) (defScope s_is_integer) .none kV2 dc2 pm2 an2 cd2 ct2), sl2⟩)
    (c2 : PySem.W.codeIn K cd2 "is_integer" = true)
    (k2 : PySem.W.keepIn K (.ref f2) = true)
    (a3 : PySem.W.nsIn K mainGlobals "is_move" = some (some (.ref f3)))
    (l3 : K.lookup f3 = some ⟨oc3, od3, .func (PySem.W.fnOf "is_move" "is_move" (defArgs s_is_move) (defBody s_is_move) (defScope s_is_move) .none kV3 dc3 pm3 an3 cd3 ct3), sl3⟩)
    (c3 : PySem.W.codeIn K cd3 "is_move" = true)
    (k3 : PySem.W.keepIn K (.ref f3) = true)
    (a4 : PySem.W.nsIn K mainGlobals "_moves_of" = some (some (.ref f4)))
    (l4 : K.lookup f4 = some ⟨oc4, od4, .func (PySem.W.fnOf "_moves_of" "_moves_of" (defArgs s_moves_of) (defBody s_moves_of) (defScope s_moves_of) .none kV4 dc4 pm4 an4 cd4 ct4), sl4⟩)
    (c4 : PySem.W.codeIn K cd4 "_moves_of" = true)
    (k4 : PySem.W.keepIn K (.ref f4) = true)
    (a5 : PySem.W.nsIn K mainGlobals "_law_numbers" = some (some (.ref f5)))
    (l5 : K.lookup f5 = some ⟨oc5, od5, .func (PySem.W.fnOf "_law_numbers" "_law_numbers" (defArgs s_l_numbers) (defBody s_l_numbers) (defScope s_l_numbers) .none kV5 dc5 pm5 an5 cd5 ct5), sl5⟩)
    (c5 : PySem.W.codeIn K cd5 "_law_numbers" = true)
    (k5 : PySem.W.keepIn K (.ref f5) = true)
    (a6 : PySem.W.nsIn K mainGlobals "_law_pool" = some (some (.ref f6)))
    (l6 : K.lookup f6 = some ⟨oc6, od6, .func (PySem.W.fnOf "_law_pool" "_law_pool" (defArgs s_l_pool) (defBody s_l_pool) (defScope s_l_pool) .none kV6 dc6 pm6 an6 cd6 ct6), sl6⟩)
    (c6 : PySem.W.codeIn K cd6 "_law_pool" = true)
    (k6 : PySem.W.keepIn K (.ref f6) = true)
    (a7 : PySem.W.nsIn K mainGlobals "_law_draw" = some (some (.ref f7)))
    (l7 : K.lookup f7 = some ⟨oc7, od7, .func (PySem.W.fnOf "_law_draw" "_law_draw" (defArgs s_l_draw) (defBody s_l_draw) (defScope s_l_draw) .none kV7 dc7 pm7 an7 cd7 ct7), sl7⟩)
    (c7 : PySem.W.codeIn K cd7 "_law_draw" = true)
    (k7 : PySem.W.keepIn K (.ref f7) = true)
    (a8 : PySem.W.nsIn K mainGlobals "_law_pick" = some (some (.ref f8)))
    (l8 : K.lookup f8 = some ⟨oc8, od8, .func (PySem.W.fnOf "_law_pick" "_law_pick" (defArgs s_l_pick) (defBody s_l_pick) (defScope s_l_pick) .none kV8 dc8 pm8 an8 cd8 ct8), sl8⟩)
    (c8 : PySem.W.codeIn K cd8 "_law_pick" = true)
    (k8 : PySem.W.keepIn K (.ref f8) = true)
    (a9 : PySem.W.nsIn K mainGlobals "_law_wrong" = some (some (.ref f9)))
    (l9 : K.lookup f9 = some ⟨oc9, od9, .func (PySem.W.fnOf "_law_wrong" "_law_wrong" (defArgs s_l_wrong) (defBody s_l_wrong) (defScope s_l_wrong) .none kV9 dc9 pm9 an9 cd9 ct9), sl9⟩)
    (c9 : PySem.W.codeIn K cd9 "_law_wrong" = true)
    (k9 : PySem.W.keepIn K (.ref f9) = true)
    (a10 : PySem.W.nsIn K mainGlobals "_law_is_move" = some (some (.ref f10)))
    (l10 : K.lookup f10 = some ⟨oc10, od10, .func (PySem.W.fnOf "_law_is_move" "_law_is_move" (defArgs s_l_is_move) (defBody s_l_is_move) (defScope s_l_is_move) .none kV10 dc10 pm10 an10 cd10 ct10), sl10⟩)
    (c10 : PySem.W.codeIn K cd10 "_law_is_move" = true)
    (k10 : PySem.W.keepIn K (.ref f10) = true)
    (a11 : PySem.W.nsIn K mainGlobals "_law_made" = some (some (.ref f11)))
    (l11 : K.lookup f11 = some ⟨oc11, od11, .func (PySem.W.fnOf "_law_made" "_law_made" (defArgs s_l_made) (defBody s_l_made) (defScope s_l_made) .none kV11 dc11 pm11 an11 cd11 ct11), sl11⟩)
    (c11 : PySem.W.codeIn K cd11 "_law_made" = true)
    (k11 : PySem.W.keepIn K (.ref f11) = true)
    (a12 : PySem.W.nsIn K mainGlobals "_law_sum" = some (some (.ref f12)))
    (l12 : K.lookup f12 = some ⟨oc12, od12, .func (PySem.W.fnOf "_law_sum" "_law_sum" (defArgs s_l_sum) (defBody s_l_sum) (defScope s_l_sum) .none kV12 dc12 pm12 an12 cd12 ct12), sl12⟩)
    (c12 : PySem.W.codeIn K cd12 "_law_sum" = true)
    (k12 : PySem.W.keepIn K (.ref f12) = true)
    (a13 : PySem.W.nsIn K mainGlobals "_law_basic" = some (some (.ref f13)))
    (l13 : K.lookup f13 = some ⟨oc13, od13, .func (PySem.W.fnOf "_law_basic" "_law_basic" (defArgs s_l_basic) (defBody s_l_basic) (defScope s_l_basic) .none kV13 dc13 pm13 an13 cd13 ct13), sl13⟩)
    (c13 : PySem.W.codeIn K cd13 "_law_basic" = true)
    (k13 : PySem.W.keepIn K (.ref f13) = true)
    (a14 : PySem.W.nsIn K mainGlobals "_law_index_refused" = some (some (.ref f14)))
    (l14 : K.lookup f14 = some ⟨oc14, od14, .func (PySem.W.fnOf "_law_index_refused" "_law_index_refused" (defArgs s_l_index_refused) (defBody s_l_index_refused) (defScope s_l_index_refused) .none kV14 dc14 pm14 an14 cd14 ct14), sl14⟩)
    (c14 : PySem.W.codeIn K cd14 "_law_index_refused" = true)
    (k14 : PySem.W.keepIn K (.ref f14) = true)
    (a15 : PySem.W.nsIn K mainGlobals "_law_both_right" = some (some (.ref f15)))
    (l15 : K.lookup f15 = some ⟨oc15, od15, .func (PySem.W.fnOf "_law_both_right" "_law_both_right" (defArgs s_l_both_right) (defBody s_l_both_right) (defScope s_l_both_right) .none kV15 dc15 pm15 an15 cd15 ct15), sl15⟩)
    (c15 : PySem.W.codeIn K cd15 "_law_both_right" = true)
    (k15 : PySem.W.keepIn K (.ref f15) = true)
    (a16 : PySem.W.nsIn K mainGlobals "law" = some (some (.ref f16)))
    (l16 : K.lookup f16 = some ⟨oc16, od16, .func (PySem.W.fnOf "law" "law" (defArgs s_law) (defBody s_law) (defScope s_law) .none kV16 dc16 pm16 an16 cd16 ct16), sl16⟩)
    (c16 : PySem.W.codeIn K cd16 "law" = true)
    (k16 : PySem.W.keepIn K (.ref f16) = true)
    (l17 : K.lookup f17 = some ⟨oc17, od17, .func (PySem.W.fnOf "__init__" "InvalidMove.__init__" (defArgs sIM_init) (defBody sIM_init) (defScope sIM_init) .none kV17 dc17 pm17 an17 cd17 ct17), sl17⟩)
    (c17 : PySem.W.codeIn K cd17 "InvalidMove.__init__" = true)
    (k17 : PySem.W.keepIn K (.ref f17) = true)
    (l18 : K.lookup f18 = some ⟨oc18, od18, .func (PySem.W.fnOf "__init__" "InvalidNumber.__init__" (defArgs sIN_init) (defBody sIN_init) (defScope sIN_init) .none kV18 dc18 pm18 an18 cd18 ct18), sl18⟩)
    (c18 : PySem.W.codeIn K cd18 "InvalidNumber.__init__" = true)
    (k18 : PySem.W.keepIn K (.ref f18) = true)
    (a19 : PySem.W.findIn K (.ref C) "__init__" = some (some (.ref f19)))
    (i19 : PySem.W.isFn K (.ref f19) = true)
    (fn19 : PySem.W.fnIn K f19 = true)
    (l19 : K.lookup f19 = some ⟨oc19, od19, .func (PySem.W.fnOf "__init__" "Run.__init__" (defArgs sR_init) (defBody sR_init) (defScope sR_init) .none kV19 dc19 pm19 an19 cd19 ct19), sl19⟩)
    (c19 : PySem.W.codeIn K cd19 "Run.__init__" = true)
    (k19 : PySem.W.keepIn K (.ref f19) = true)
    (l20 : K.lookup f20 = some ⟨oc20, od20, .func (PySem.W.fnOf "of" "Run.of" (defArgs sR_of) (defBody sR_of) (defScope sR_of) .none kV20 dc20 pm20 an20 cd20 ct20), sl20⟩)
    (c20 : PySem.W.codeIn K cd20 "Run.of" = true)
    (k20 : PySem.W.keepIn K (.ref f20) = true)
    (l21 : K.lookup f21 = some ⟨oc21, od21, .func (PySem.W.fnOf "hands" "Run.hands" (defArgs sR_hands) (defBody sR_hands) (defScope sR_hands) .none kV21 dc21 pm21 an21 cd21 ct21), sl21⟩)
    (c21 : PySem.W.codeIn K cd21 "Run.hands" = true)
    (k21 : PySem.W.keepIn K (.ref f21) = true)
    (a22 : PySem.W.findIn K (.ref C) "listed" = some (some (.ref f22)))
    (i22 : PySem.W.isFn K (.ref f22) = true)
    (fn22 : PySem.W.fnIn K f22 = true)
    (l22 : K.lookup f22 = some ⟨oc22, od22, .func (PySem.W.fnOf "listed" "Run.listed" (defArgs sR_listed) (defBody sR_listed) (defScope sR_listed) .none kV22 dc22 pm22 an22 cd22 ct22), sl22⟩)
    (c22 : PySem.W.codeIn K cd22 "Run.listed" = true)
    (k22 : PySem.W.keepIn K (.ref f22) = true)
    (a23 : PySem.W.findIn K (.ref C) "__len__" = some (some (.ref f23)))
    (i23 : PySem.W.isFn K (.ref f23) = true)
    (fn23 : PySem.W.fnIn K f23 = true)
    (l23 : K.lookup f23 = some ⟨oc23, od23, .func (PySem.W.fnOf "__len__" "Run.__len__" (defArgs sR_len) (defBody sR_len) (defScope sR_len) .none kV23 dc23 pm23 an23 cd23 ct23), sl23⟩)
    (c23 : PySem.W.codeIn K cd23 "Run.__len__" = true)
    (k23 : PySem.W.keepIn K (.ref f23) = true)
    (a24 : PySem.W.findIn K (.ref C) "__getitem__" = some (some (.ref f24)))
    (i24 : PySem.W.isFn K (.ref f24) = true)
    (fn24 : PySem.W.fnIn K f24 = true)
    (l24 : K.lookup f24 = some ⟨oc24, od24, .func (PySem.W.fnOf "__getitem__" "Run.__getitem__" (defArgs sR_ix) (defBody sR_ix) (defScope sR_ix) .none kV24 dc24 pm24 an24 cd24 ct24), sl24⟩)
    (c24 : PySem.W.codeIn K cd24 "Run.__getitem__" = true)
    (k24 : PySem.W.keepIn K (.ref f24) = true)
    (a25 : PySem.W.findIn K (.ref C) "__iter__" = some (some (.ref f25)))
    (i25 : PySem.W.isFn K (.ref f25) = true)
    (fn25 : PySem.W.fnIn K f25 = true)
    (l25 : K.lookup f25 = some ⟨oc25, od25, .func (PySem.W.fnOf "__iter__" "Run.__iter__" (defArgs sR_iter) (defBody sR_iter) (defScope sR_iter) .none kV25 dc25 pm25 an25 cd25 ct25), sl25⟩)
    (c25 : PySem.W.codeIn K cd25 "Run.__iter__" = true)
    (k25 : PySem.W.keepIn K (.ref f25) = true)
    (a26 : PySem.W.findIn K (.ref C) "__contains__" = some (some (.ref f26)))
    (i26 : PySem.W.isFn K (.ref f26) = true)
    (fn26 : PySem.W.fnIn K f26 = true)
    (l26 : K.lookup f26 = some ⟨oc26, od26, .func (PySem.W.fnOf "__contains__" "Run.__contains__" (defArgs sR_ins) (defBody sR_ins) (defScope sR_ins) .none kV26 dc26 pm26 an26 cd26 ct26), sl26⟩)
    (c26 : PySem.W.codeIn K cd26 "Run.__contains__" = true)
    (k26 : PySem.W.keepIn K (.ref f26) = true)
    (a27 : PySem.W.findIn K (.ref C) "__add__" = some (some (.ref f27)))
    (i27 : PySem.W.isFn K (.ref f27) = true)
    (fn27 : PySem.W.fnIn K f27 = true)
    (l27 : K.lookup f27 = some ⟨oc27, od27, .func (PySem.W.fnOf "__add__" "Run.__add__" (defArgs sR_add) (defBody sR_add) (defScope sR_add) .none kV27 dc27 pm27 an27 cd27 ct27), sl27⟩)
    (c27 : PySem.W.codeIn K cd27 "Run.__add__" = true)
    (k27 : PySem.W.keepIn K (.ref f27) = true)
    (a28 : PySem.W.findIn K (.ref C) "__radd__" = some (some (.ref f28)))
    (i28 : PySem.W.isFn K (.ref f28) = true)
    (fn28 : PySem.W.fnIn K f28 = true)
    (l28 : K.lookup f28 = some ⟨oc28, od28, .func (PySem.W.fnOf "__radd__" "Run.__radd__" (defArgs sR_radd) (defBody sR_radd) (defScope sR_radd) .none kV28 dc28 pm28 an28 cd28 ct28), sl28⟩)
    (c28 : PySem.W.codeIn K cd28 "Run.__radd__" = true)
    (k28 : PySem.W.keepIn K (.ref f28) = true)
    (a29 : PySem.W.findIn K (.ref C) "__iadd__" = some (some (.ref f29)))
    (i29 : PySem.W.isFn K (.ref f29) = true)
    (fn29 : PySem.W.fnIn K f29 = true)
    (l29 : K.lookup f29 = some ⟨oc29, od29, .func (PySem.W.fnOf "__iadd__" "Run.__iadd__" (defArgs sR_iadd) (defBody sR_iadd) (defScope sR_iadd) .none kV29 dc29 pm29 an29 cd29 ct29), sl29⟩)
    (c29 : PySem.W.codeIn K cd29 "Run.__iadd__" = true)
    (k29 : PySem.W.keepIn K (.ref f29) = true)
    (a30 : PySem.W.findIn K (.ref C) "__eq__" = some (some (.ref f30)))
    (i30 : PySem.W.isFn K (.ref f30) = true)
    (fn30 : PySem.W.fnIn K f30 = true)
    (l30 : K.lookup f30 = some ⟨oc30, od30, .func (PySem.W.fnOf "__eq__" "Run.__eq__" (defArgs sR_eq) (defBody sR_eq) (defScope sR_eq) .none kV30 dc30 pm30 an30 cd30 ct30), sl30⟩)
    (c30 : PySem.W.codeIn K cd30 "Run.__eq__" = true)
    (k30 : PySem.W.keepIn K (.ref f30) = true)
    (sf : PySem.W.selfFirst K C = true)
    (noint : PySem.W.subIn K (.type "int") (.ref C) = some false)
    (nf : PySem.W.notFirst K C (.type "tuple") = true)
    (kt_NoneType : PySem.W.kitOne K (.type "NoneType") (.ref C) = some false)
    (kt_bool : PySem.W.kitOne K (.type "bool") (.ref C) = some false)
    (kt_int : PySem.W.kitOne K (.type "int") (.ref C) = some false)
    (kt_str : PySem.W.kitOne K (.type "str") (.ref C) = some false)
    (kt_list : PySem.W.kitOne K (.type "list") (.ref C) = some false)
    (kt_tuple : PySem.W.kitOne K (.type "tuple") (.ref C) = some false)
    (kt_dict : PySem.W.kitOne K (.type "dict") (.ref C) = some false)
    : ∃ fd : FuncData, (∀ (s : Shared) (v : Value), BindsTo s fd ⟨[v], []⟩ [("_law_script", v)]) ∧ ∀ base : Heap, K.In base → base.Ns mainGlobals mg → FnG l.prog w K mg base CX0 9 fa fd ["_law_script"] (spLaw K) := by
  have e := hfa.symm.trans (PySem.W.mg_of X G a16)
  cases e
  have T : Txt K mg lt0 lt1 := { m_max := PySem.W.mg_none_of X G z_max, m_range := PySem.W.mg_none_of X G z_range, m_len := PySem.W.mg_none_of X G z_len, m_int := PySem.W.mg_none_of X G z_int, m_bool := PySem.W.mg_none_of X G z_bool, m_isinstance := PySem.W.mg_none_of X G z_isinstance, m_str := PySem.W.mg_none_of X G z_str, m_all := PySem.W.mg_none_of X G z_all, m_tuple := PySem.W.mg_none_of X G z_tuple, m_list := PySem.W.mg_none_of X G z_list, m_enumerate := PySem.W.mg_none_of X G z_enumerate, m_repr := PySem.W.mg_none_of X G z_repr, m_dict := PySem.W.mg_none_of X G z_dict, m_iter := PySem.W.mg_none_of X G z_iter, c_LONGEST_NAME := PySem.W.mg_of X G y_lt0, c_HIGHEST_PLACE := PySem.W.mg_of X G y_lt1 }
  have TS : ExT K mg "InvalidMove" "move" S f17 := exT_of X G aS xS rfl saS exS tyS kpS noS gaS ggS hdS iiS tiS icS ssS
  have TN : ExT K mg "InvalidNumber" "value" N f18 := exT_of X G aN xN rfl saN exN tyN kpN noN gaN ggN hdN iiN tiN icN ssN
  have clC : Cls K C := ⟨pgC, hdC, poC, saC⟩
  have MC : Mk K C f19 := ⟨mkC, a19, i19, kpC⟩
  have RDC : ClX.CRead K C (.type "type") := ⟨rdC, gtC⟩
  have SM_r_of : SMet K C (.type "type") "of" sCof f20 := ⟨b1sCof, ⟨_, b2sCof⟩, k20⟩
  have PP_r_hands : PropOf K C "hands" pChands f21 := ⟨b1pChands, b2pChands, b3pChands, ⟨_, b4pChands⟩⟩
  have tyC : TyC K C := ⟨tcC, thC, ttC, tmC⟩
  have F_is_name := fun_mk (st := s_is_name) l1 c1 k1
  have b_is_name := F_is_name.binds (ps := ["value"]) fun _ _ _ _ _ _ us hl => match us, hl with | [_], _ => rfl
  have g_is_name := PySem.W.mg_of X G a1
  have F_is_integer := fun_mk (st := s_is_integer) l2 c2 k2
  have b_is_integer := F_is_integer.binds (ps := ["value", "lowest", "highest"]) fun _ _ _ _ _ _ us hl => match us, hl with | [_, _, _], _ => rfl
  have g_is_integer := PySem.W.mg_of X G a2
  have F_is_move := fun_mk (st := s_is_move) l3 c3 k3
  have b_is_move := F_is_move.binds (ps := ["value"]) fun _ _ _ _ _ _ us hl => match us, hl with | [_], _ => rfl
  have g_is_move := PySem.W.mg_of X G a3
  have F_moves_of := fun_mk (st := s_moves_of) l4 c4 k4
  have b_moves_of := F_moves_of.binds (ps := ["other"]) fun _ _ _ _ _ _ us hl => match us, hl with | [_], _ => rfl
  have g_moves_of := PySem.W.mg_of X G a4
  have F_l_numbers := fun_mk (st := s_l_numbers) l5 c5 k5
  have b_l_numbers := F_l_numbers.binds (ps := ["_law_cell", "_law_salt", "_law_sizes"]) fun _ _ _ _ _ _ us hl => match us, hl with | [_, _, _], _ => rfl
  have g_l_numbers := PySem.W.mg_of X G a5
  have F_l_pool := fun_mk (st := s_l_pool) l6 c6 k6
  have b_l_pool := F_l_pool.binds (ps := ["_law_cell", "_law_salt", "_law_many"]) fun _ _ _ _ _ _ us hl => match us, hl with | [_, _, _], _ => rfl
  have g_l_pool := PySem.W.mg_of X G a6
  have F_l_draw := fun_mk (st := s_l_draw) l7 c7 k7
  have b_l_draw := F_l_draw.binds (ps := ["_law_pool_here", "_law_many"]) fun _ _ _ _ _ _ us hl => match us, hl with | [_, _], _ => rfl
  have g_l_draw := PySem.W.mg_of X G a7
  have F_l_pick := fun_mk (st := s_l_pick) l8 c8 k8
  have b_l_pick := F_l_pick.binds (ps := ["_law_pool_here", "_law_some"]) fun _ _ _ _ _ _ us hl => match us, hl with | [_, _], _ => rfl
  have g_l_pick := PySem.W.mg_of X G a8
  have F_l_wrong := fun_mk (st := s_l_wrong) l9 c9 k9
  have b_l_wrong := F_l_wrong.binds (ps := ["_law_some"]) fun _ _ _ _ _ _ us hl => match us, hl with | [_], _ => rfl
  have g_l_wrong := PySem.W.mg_of X G a9
  have F_l_is_move := fun_mk (st := s_l_is_move) l10 c10 k10
  have b_l_is_move := F_l_is_move.binds (ps := ["_law_value"]) fun _ _ _ _ _ _ us hl => match us, hl with | [_], _ => rfl
  have g_l_is_move := PySem.W.mg_of X G a10
  have F_l_made := fun_mk (st := s_l_made) l11 c11 k11
  have b_l_made := F_l_made.binds (ps := ["_law_some"]) fun _ _ _ _ _ _ us hl => match us, hl with | [_], _ => rfl
  have g_l_made := PySem.W.mg_of X G a11
  have F_l_sum := fun_mk (st := s_l_sum) l12 c12 k12
  have b_l_sum := F_l_sum.binds (ps := ["_law_one", "_law_other"]) fun _ _ _ _ _ _ us hl => match us, hl with | [_, _], _ => rfl
  have g_l_sum := PySem.W.mg_of X G a12
  have F_l_basic := fun_mk (st := s_l_basic) l13 c13 k13
  have b_l_basic := F_l_basic.binds (ps := ["_law_run", "_law_some"]) fun _ _ _ _ _ _ us hl => match us, hl with | [_, _], _ => rfl
  have g_l_basic := PySem.W.mg_of X G a13
  have F_l_index_refused := fun_mk (st := s_l_index_refused) l14 c14 k14
  have b_l_index_refused := F_l_index_refused.binds (ps := ["_law_run", "_law_index"]) fun _ _ _ _ _ _ us hl => match us, hl with | [_, _], _ => rfl
  have g_l_index_refused := PySem.W.mg_of X G a14
  have F_l_both_right := fun_mk (st := s_l_both_right) l15 c15 k15
  have b_l_both_right := F_l_both_right.binds (ps := ["_law_first", "_law_second"]) fun _ _ _ _ _ _ us hl => match us, hl with | [_, _], _ => rfl
  have g_l_both_right := PySem.W.mg_of X G a15
  have F_law := fun_mk (st := s_law) l16 c16 k16
  have F_im_init := fun_mk (st := sIM_init) l17 c17 k17
  have b_im_init := F_im_init.binds (ps := ["self", "move"]) fun _ _ _ _ _ _ us hl => match us, hl with | [_, _], _ => rfl
  have F_in_init := fun_mk (st := sIN_init) l18 c18 k18
  have b_in_init := F_in_init.binds (ps := ["self", "value"]) fun _ _ _ _ _ _ us hl => match us, hl with | [_, _], _ => rfl
  have F_r_init := fun_mk (st := sR_init) l19 c19 k19
  have F_r_of := fun_mk (st := sR_of) l20 c20 k20
  have b_r_of := F_r_of.binds (ps := ["moves"]) fun _ _ _ _ _ _ us hl => match us, hl with | [_], _ => rfl
  have F_r_hands := fun_mk (st := sR_hands) l21 c21 k21
  have b_r_hands := F_r_hands.binds (ps := ["self"]) fun _ _ _ _ _ _ us hl => match us, hl with | [_], _ => rfl
  have F_r_listed := fun_mk (st := sR_listed) l22 c22 k22
  have b_r_listed := F_r_listed.binds (ps := ["self"]) fun _ _ _ _ _ _ us hl => match us, hl with | [_], _ => rfl
  have F_r_len := fun_mk (st := sR_len) l23 c23 k23
  have b_r_len := F_r_len.binds (ps := ["self"]) fun _ _ _ _ _ _ us hl => match us, hl with | [_], _ => rfl
  have F_r_ix := fun_mk (st := sR_ix) l24 c24 k24
  have b_r_ix := F_r_ix.binds (ps := ["self", "at"]) fun _ _ _ _ _ _ us hl => match us, hl with | [_, _], _ => rfl
  have F_r_iter := fun_mk (st := sR_iter) l25 c25 k25
  have b_r_iter := F_r_iter.binds (ps := ["self"]) fun _ _ _ _ _ _ us hl => match us, hl with | [_], _ => rfl
  have F_r_ins := fun_mk (st := sR_ins) l26 c26 k26
  have b_r_ins := F_r_ins.binds (ps := ["self", "value"]) fun _ _ _ _ _ _ us hl => match us, hl with | [_, _], _ => rfl
  have F_r_add := fun_mk (st := sR_add) l27 c27 k27
  have b_r_add := F_r_add.binds (ps := ["self", "other"]) fun _ _ _ _ _ _ us hl => match us, hl with | [_, _], _ => rfl
  have F_r_radd := fun_mk (st := sR_radd) l28 c28 k28
  have b_r_radd := F_r_radd.binds (ps := ["self", "other"]) fun _ _ _ _ _ _ us hl => match us, hl with | [_, _], _ => rfl
  have F_r_iadd := fun_mk (st := sR_iadd) l29 c29 k29
  have b_r_iadd := F_r_iadd.binds (ps := ["self", "other"]) fun _ _ _ _ _ _ us hl => match us, hl with | [_, _], _ => rfl
  have F_r_eq := fun_mk (st := sR_eq) l30 c30 k30
  have b_r_eq := F_r_eq.binds (ps := ["self", "other"]) fun _ _ _ _ _ _ us hl => match us, hl with | [_, _], _ => rfl
  have FA : Far K C := fun d => match d with | .none => kt_NoneType | .bool _ => kt_bool | .int _ => kt_int | .str _ => kt_str | .list _ => kt_list | .tuple _ => kt_tuple | .dict _ => kt_dict
  have CT : ClT K mg C := ⟨PySem.W.mg_of X G aC, clC, nC_moves⟩
  refine ⟨PySem.W.fnOf "law" "law" (defArgs s_law) (defBody s_law) (defScope s_law) .none kV16 dc16 pm16 an16 cd16 ct16, fun s v => .of_eq rfl, fun base _ _ => ?_⟩
  have G_is_name : FnOk l.prog w K mg base CX0 1 f1 _ ["value"] ((spChk K isNameP)) := ok_is_name F_is_name T
  have G_is_integer : FnOk l.prog w K mg base CX0 1 f2 _ ["value", "lowest", "highest"] ((spIsInt K)) := ok_is_int F_is_integer T
  have G_is_move : FnOk l.prog w K mg base CX0 2 f3 _ ["value"] ((spChk K isMoveP)) := ok_is_move F_is_move T F_is_name b_is_name g_is_name G_is_name F_is_integer b_is_integer g_is_integer G_is_integer
  have G_im_init : FnOk l.prog w K mg base CX0 1 f17 _ ["self", "move"] (spExI S "move") := ok_im_init F_im_init TS
  have G_in_init : FnOk l.prog w K mg base CX0 1 f18 _ ["self", "value"] (spExI N "value") := ok_in_init F_in_init TN
  have G_r_init : FnR l.prog w K mg base (L2.CX l.prog w) 4 f19 ((spStar 1 (spRunI K C S))) := ok_r_init F_r_init CT TS F_is_move b_is_move g_is_move G_is_move b_im_init G_im_init
  have G_r_of : FnOk l.prog w K mg base (L2.CX l.prog w) 6 f20 _ ["moves"] ((spOf K C S)) := ok_r_of F_r_of CT MC G_r_init
  have R_r_of := (G_r_of.raw b_r_of .nil).imp fun vs H Q E h => by rw [List.append_nil]; exact h
  have G_r_hands : FnOk l.prog w K mg base CX0 1 f21 _ ["self"] ((spHands K C)) := ok_r_hands F_r_hands T CT
  have G_r_listed : FnOk l.prog w K mg base CX0 1 f22 _ ["self"] ((spListed K C)) := ok_r_listed F_r_listed T CT
  have G_r_len : FnOk l.prog w K mg base CX0 1 f23 _ ["self"] ((spLenR K C)) := ok_r_len F_r_len T CT
  have R_r_len := (G_r_len.raw b_r_len .nil).imp fun vs H Q E h => by rw [List.append_nil]; exact h
  have G_r_ix : FnOk l.prog w K mg base (L2.CX l.prog w) 3 f24 _ ["self", "at"] ((spIxR K C N)) := ok_r_ix F_r_ix T CT TN F_is_integer b_is_integer g_is_integer G_is_integer b_in_init G_in_init
  have R_r_ix := (G_r_ix.raw b_r_ix .nil).imp fun vs H Q E h => by rw [List.append_nil]; exact h
  have G_r_iter : FnOk l.prog w K mg base CX0 1 f25 _ ["self"] ((spIterR K C)) := ok_r_iter F_r_iter T CT
  have R_r_iter := (G_r_iter.raw b_r_iter .nil).imp fun vs H Q E h => by rw [List.append_nil]; exact h
  have G_r_ins : FnOk l.prog w K mg base CX0 3 f26 _ ["self", "value"] ((spInR K C)) := ok_r_ins F_r_ins CT F_is_move b_is_move g_is_move G_is_move
  have R_r_ins := (G_r_ins.raw b_r_ins .nil).imp fun vs H Q E h => by rw [List.append_nil]; exact h
  have G_r_eq : FnOk l.prog w K mg base CX0 1 f30 _ ["self", "other"] ((spEqR K C)) := ok_r_eq F_r_eq T CT tyC
  have R_r_eq := (G_r_eq.raw b_r_eq .nil).imp fun vs H Q E h => by rw [List.append_nil]; exact h
  have LC : LstC K C f25 f23 := ⟨a25, i25, a23, i23⟩
  have G_moves_of : FnOk l.prog w K mg base (L2.CX l.prog w) 5 f4 _ ["other"] ((spMovesOf K C S)) := ok_moves_of F_moves_of T CT tyC FA TS b_im_init G_im_init LC R_r_iter R_r_len
  have G_r_add : FnOk l.prog w K mg base (L2.CX l.prog w) 6 f27 _ ["self", "other"] ((spAdd K C S false)) := ok_r_add F_r_add CT MC G_r_init F_moves_of b_moves_of g_moves_of G_moves_of
  have R_r_add := (G_r_add.raw b_r_add .nil).imp fun vs H Q E h => by rw [List.append_nil]; exact h
  have G_r_radd : FnOk l.prog w K mg base (L2.CX l.prog w) 6 f28 _ ["self", "other"] ((spAdd K C S true)) := ok_r_radd F_r_radd CT MC G_r_init F_moves_of b_moves_of g_moves_of G_moves_of
  have R_r_radd := (G_r_radd.raw b_r_radd .nil).imp fun vs H Q E h => by rw [List.append_nil]; exact h
  have G_r_iadd : FnOk l.prog w K mg base (L2.CX l.prog w) 6 f29 _ ["self", "other"] ((spAdd K C S false)) := ok_r_iadd F_r_iadd CT MC G_r_init F_moves_of b_moves_of g_moves_of G_moves_of
  have R_r_iadd := (G_r_iadd.raw b_r_iadd .nil).imp fun vs H Q E h => by rw [List.append_nil]; exact h
  have AC : AddC K C f27 f28 f29 := ⟨sf, a27, i27, a28, i28, a29, i29, noint⟩
  have M_listed : Meth K C "listed" f22 := ⟨a22, i22, k22⟩
  have M : RunM l.prog w K mg base C N S := ⟨CT, tyC, FA, neC, ⟨_, _, _, PP_r_hands, b_r_hands, G_r_hands⟩, ⟨_, _, M_listed, b_r_listed, G_r_listed⟩, ⟨_, a23, i23, R_r_len⟩, ⟨_, a24, fn24, i24, R_r_ix⟩, ⟨_, a26, i26, R_r_ins⟩, ⟨_, a30, i30, R_r_eq⟩, ⟨_, _, _, AC, R_r_add, R_r_radd, R_r_iadd⟩, ⟨_, MC, G_r_init⟩, ⟨_, _, _, RDC, SM_r_of, R_r_of⟩⟩
  have G_l_numbers : FnOk l.prog w K mg base CX0 1 f5 _ ["_law_cell", "_law_salt", "_law_sizes"] ((spNum K)) := ok_num F_l_numbers T.m_max T.m_range T.m_len
  have G_l_pool : FnOk l.prog w K mg base CX0 2 f6 _ ["_law_cell", "_law_salt", "_law_many"] ((spPool K)) := ok_l_pool F_l_pool T.toBlt F_l_numbers b_l_numbers g_l_numbers G_l_numbers
  have G_l_draw : FnOk l.prog w K mg base CX0 1 f7 _ ["_law_pool_here", "_law_many"] ((spDraw K)) := ok_l_draw F_l_draw T.toBlt
  have G_l_pick : FnOk l.prog w K mg base CX0 2 f8 _ ["_law_pool_here", "_law_some"] ((spPick K)) := ok_l_pick F_l_pick T.toBlt F_l_draw b_l_draw g_l_draw G_l_draw
  have G_l_is_move : FnOk l.prog w K mg base CX0 2 f10 _ ["_law_value"] ((spChk K isMoveP)) := ok_l_is_move F_l_is_move T F_is_name b_is_name g_is_name G_is_name
  have G_l_wrong : FnG l.prog w K mg base CX0 3 f9 _ ["_law_some"] ((spBadL K)) := ok_l_wrong F_l_wrong T F_l_is_move b_l_is_move g_l_is_move G_l_is_move
  have G_l_made : FnG l.prog w K mg base CX0 7 f11 _ ["_law_some"] ((spBadL K)) := ok_l_made F_l_made T CT TS RDC SM_r_of R_r_of
  have G_l_sum : FnG l.prog w K mg base CX0 7 f12 _ ["_law_one", "_law_other"] ((spSum K C)) := ok_l_sum F_l_sum T TS AC R_r_add
  have G_l_index_refused : FnOk l.prog w K mg base CX0 5 f14 _ ["_law_run", "_law_index"] ((spIRef K C)) := ok_l_iref F_l_index_refused T M TN
  have G_l_basic : FnOk l.prog w K mg base CX0 6 f13 _ ["_law_run", "_law_some"] ((spBasic K C)) := ok_l_basic F_l_basic T M F_l_index_refused b_l_index_refused g_l_index_refused G_l_index_refused
  have G_l_both_right : FnG l.prog w K mg base CX0 8 f15 _ ["_law_first", "_law_second"] ((spBoth K)) := ok_l_both F_l_both_right T M F_l_basic b_l_basic g_l_basic G_l_basic F_l_sum b_l_sum g_l_sum G_l_sum
  exact ok_l_law F_law T M nf F_l_pool b_l_pool g_l_pool G_l_pool F_l_draw b_l_draw g_l_draw G_l_draw F_l_pick b_l_pick g_l_pick G_l_pick F_is_move b_is_move g_is_move G_is_move F_l_is_move b_l_is_move g_l_is_move G_l_is_move F_l_both_right b_l_both_right g_l_both_right G_l_both_right F_l_made b_l_made g_l_made G_l_made F_l_wrong b_l_wrong g_l_wrong G_l_wrong F_l_sum b_l_sum g_l_sum G_l_sum
theorem walk {l : PySem.W.OpenLaw} {q : Program} {loose : List Str} {XP : (Str → Option Value) → Heap → Prop} {YP : World → Heap → Prop} {d : DefRec} {K : Params → PySem.W.Frag} (hn : l.most = some 63) (hdf : d.params.defaults = [])
    (hY : ∀ (w : World) (h : Heap), YP w h → (K w.params).In h)
    (F : ∀ (w : World) (mg : Str → Option Value) (fa : Addr) (h : Heap), (K w.params).In h → h.Ns mainGlobals mg → mg d.name = some (.ref fa) →
      ∃ fd : FuncData, (∀ (s : Shared) (u : Value), BindsTo s fd ⟨[u], []⟩ [("_law_script", u)]) ∧ ∀ base : Heap, (K w.params).In base → base.Ns mainGlobals mg → FnG l.prog w (K w.params) mg base CX0 9 fa fd ["_law_script"] (spLaw (K w.params))) :
    PySem.W.WalkO q loose XP YP l.row.toRowW d [] (fun f vs => PySem.call f vs) :=
  walk_G (n := 63) (k := 9) (x := "_law_script") (sp := fun w => spLaw (K w.params)) hn (by decide) hdf ⟨rfl, by decide, by decide⟩ hY F fun _ _ a ns hl hS _ => ⟨a, ns, rfl, hS, hl, fun _ => rfl⟩
end K12

open PySem PySem.W PyProof.Rows in
set_option maxRecDepth 100000 in
set_option maxHeartbeats 0 in
theorem PySem.Challenge.cw_pulledout_k12_runs_as_values_holds : PySem.Challenge.rw_pulledout_k12_runs_as_values.Holds := by
  w_on; o_law; k_head; (case hw => w_witness2)
  k_fill
  refine K12.walk (l := PySem.Challenge.rw_pulledout_k12_runs_as_values) rfl rfl (fun w h Y => PySem.W.kIn_of Y) ?F
  case F =>
    intro w mg fa h KX G hmg
    refine' K12.all_mk KX G hmg ?y_lt0 ?y_lt1 ?z_max ?z_range ?z_len ?z_int ?z_bool ?z_isinstance ?z_str ?z_all ?z_tuple ?z_list ?z_enumerate ?z_repr ?z_dict ?z_iter ?aS ?xS ?saS ?exS ?tyS ?kpS ?noS ?gaS ?ggS ?hdS ?iiS ?tiS ?icS ?ssS ?aN ?xN ?saN ?exN ?tyN ?kpN ?noN ?gaN ?ggN ?hdN ?iiN ?tiN ?icN ?ssN ?aC ?pgC ?hdC ?poC ?saC ?nC_moves ?mkC ?kpC ?rdC ?gtC ?b1sCof ?b2sCof ?b1pChands ?b2pChands ?b3pChands ?b4pChands ?tcC ?thC ?ttC ?tmC ?neC ?a1 ?l1 ?c1 ?k1 ?a2 ?l2 ?c2 ?k2 ?a3 ?l3 ?c3 ?k3 ?a4 ?l4 ?c4 ?k4 ?a5 ?l5 ?c5 ?k5 ?a6 ?l6 ?c6 ?k6 ?a7 ?l7 ?c7 ?k7 ?a8 ?l8 ?c8 ?k8 ?a9 ?l9 ?c9 ?k9 ?a10 ?l10 ?c10 ?k10 ?a11 ?l11 ?c11 ?k11 ?a12 ?l12 ?c12 ?k12 ?a13 ?l13 ?c13 ?k13 ?a14 ?l14 ?c14 ?k14 ?a15 ?l15 ?c15 ?k15 ?a16 ?l16 ?c16 ?k16 ?l17 ?c17 ?k17 ?l18 ?c18 ?k18 ?a19 ?i19 ?fn19 ?l19 ?c19 ?k19 ?l20 ?c20 ?k20 ?l21 ?c21 ?k21 ?a22 ?i22 ?fn22 ?l22 ?c22 ?k22 ?a23 ?i23 ?fn23 ?l23 ?c23 ?k23 ?a24 ?i24 ?fn24 ?l24 ?c24 ?k24 ?a25 ?i25 ?fn25 ?l25 ?c25 ?k25 ?a26 ?i26 ?fn26 ?l26 ?c26 ?k26 ?a27 ?i27 ?fn27 ?l27 ?c27 ?k27 ?a28 ?i28 ?fn28 ?l28 ?c28 ?k28 ?a29 ?i29 ?fn29 ?l29 ?c29 ?k29 ?a30 ?i30 ?fn30 ?l30 ?c30 ?k30 ?sf ?noint ?nf ?kt_NoneType ?kt_bool ?kt_int ?kt_str ?kt_list ?kt_tuple ?kt_dict
    (case y_lt0 => k_is)
    (case y_lt1 => k_is)
    (case z_max => k_is)
    (case z_range => k_is)
    (case z_len => k_is)
    (case z_int => k_is)
    (case z_bool => k_is)
    (case z_isinstance => k_is)
    (case z_str => k_is)
    (case z_all => k_is)
    (case z_tuple => k_is)
    (case z_list => k_is)
    (case z_enumerate => k_is)
    (case z_repr => k_is)
    (case z_dict => k_is)
    (case z_iter => k_is)
    (case aS => k_is)
    (case xS => k_is)
    (case saS => k_is)
    (case exS => k_is)
    (case tyS => k_is)
    (case kpS => k_is)
    (case noS => k_is)
    (case gaS => k_is)
    (case ggS => k_is)
    (case hdS => k_is)
    (case iiS => k_is)
    (case tiS => k_is)
    (case icS => k_is)
    (case ssS => first | rfl | k_is)
    (case aN => k_is)
    (case xN => k_is)
    (case saN => k_is)
    (case exN => k_is)
    (case tyN => k_is)
    (case kpN => k_is)
    (case noN => k_is)
    (case gaN => k_is)
    (case ggN => k_is)
    (case hdN => k_is)
    (case iiN => k_is)
    (case tiN => k_is)
    (case icN => k_is)
    (case ssN => first | rfl | k_is)
    (case aC => k_is)
    (case pgC => k_is)
    (case hdC => k_is)
    (case poC => k_is)
    (case saC => k_is)
    (case nC_moves => k_is)
    (case mkC => k_is)
    (case kpC => k_is)
    (case rdC => k_is)
    (case gtC => k_is)
    (case b1sCof => k_is)
    (case b2sCof => k_is)
    (case b1pChands => k_is)
    (case b2pChands => k_is)
    (case b3pChands => k_is)
    (case b4pChands => k_is)
    (case tcC => k_is)
    (case thC => k_is)
    (case ttC => k_is)
    (case tmC => k_is)
    (case neC => k_is)
    (case a1 => k_is)
    (case l1 => k_is)
    (case c1 => k_is)
    (case k1 => k_is)
    (case a2 => k_is)
    (case l2 => k_is)
    (case c2 => k_is)
    (case k2 => k_is)
    (case a3 => k_is)
    (case l3 => k_is)
    (case c3 => k_is)
    (case k3 => k_is)
    (case a4 => k_is)
    (case l4 => k_is)
    (case c4 => k_is)
    (case k4 => k_is)
    (case a5 => k_is)
    (case l5 => k_is)
    (case c5 => k_is)
    (case k5 => k_is)
    (case a6 => k_is)
    (case l6 => k_is)
    (case c6 => k_is)
    (case k6 => k_is)
    (case a7 => k_is)
    (case l7 => k_is)
    (case c7 => k_is)
    (case k7 => k_is)
    (case a8 => k_is)
    (case l8 => k_is)
    (case c8 => k_is)
    (case k8 => k_is)
    (case a9 => k_is)
    (case l9 => k_is)
    (case c9 => k_is)
    (case k9 => k_is)
    (case a10 => k_is)
    (case l10 => k_is)
    (case c10 => k_is)
    (case k10 => k_is)
    (case a11 => k_is)
    (case l11 => k_is)
    (case c11 => k_is)
    (case k11 => k_is)
    (case a12 => k_is)
    (case l12 => k_is)
    (case c12 => k_is)
    (case k12 => k_is)
    (case a13 => k_is)
    (case l13 => k_is)
    (case c13 => k_is)
    (case k13 => k_is)
    (case a14 => k_is)
    (case l14 => k_is)
    (case c14 => k_is)
    (case k14 => k_is)
    (case a15 => k_is)
    (case l15 => k_is)
    (case c15 => k_is)
    (case k15 => k_is)
    (case a16 => k_is)
    (case l16 => k_is)
    (case c16 => k_is)
    (case k16 => k_is)
    (case l17 => k_is)
    (case c17 => k_is)
    (case k17 => k_is)
    (case l18 => k_is)
    (case c18 => k_is)
    (case k18 => k_is)
    (case a19 => k_is)
    (case i19 => k_is)
    (case fn19 => k_is)
    (case l19 => k_is)
    (case c19 => k_is)
    (case k19 => k_is)
    (case l20 => k_is)
    (case c20 => k_is)
    (case k20 => k_is)
    (case l21 => k_is)
    (case c21 => k_is)
    (case k21 => k_is)
    (case a22 => k_is)
    (case i22 => k_is)
    (case fn22 => k_is)
    (case l22 => k_is)
    (case c22 => k_is)
    (case k22 => k_is)
    (case a23 => k_is)
    (case i23 => k_is)
    (case fn23 => k_is)
    (case l23 => k_is)
    (case c23 => k_is)
    (case k23 => k_is)
    (case a24 => k_is)
    (case i24 => k_is)
    (case fn24 => k_is)
    (case l24 => k_is)
    (case c24 => k_is)
    (case k24 => k_is)
    (case a25 => k_is)
    (case i25 => k_is)
    (case fn25 => k_is)
    (case l25 => k_is)
    (case c25 => k_is)
    (case k25 => k_is)
    (case a26 => k_is)
    (case i26 => k_is)
    (case fn26 => k_is)
    (case l26 => k_is)
    (case c26 => k_is)
    (case k26 => k_is)
    (case a27 => k_is)
    (case i27 => k_is)
    (case fn27 => k_is)
    (case l27 => k_is)
    (case c27 => k_is)
    (case k27 => k_is)
    (case a28 => k_is)
    (case i28 => k_is)
    (case fn28 => k_is)
    (case l28 => k_is)
    (case c28 => k_is)
    (case k28 => k_is)
    (case a29 => k_is)
    (case i29 => k_is)
    (case fn29 => k_is)
    (case l29 => k_is)
    (case c29 => k_is)
    (case k29 => k_is)
    (case a30 => k_is)
    (case i30 => k_is)
    (case fn30 => k_is)
    (case l30 => k_is)
    (case c30 => k_is)
    (case k30 => k_is)
    (case sf => first | rfl | k_is)
    (case noint => first | rfl | k_is)
    (case nf => first | rfl | k_is)
    (case kt_NoneType => first | rfl | k_is)
    (case kt_bool => first | rfl | k_is)
    (case kt_int => first | rfl | k_is)
    (case kt_str => first | rfl | k_is)
    (case kt_list => first | rfl | k_is)
    (case kt_tuple => first | rfl | k_is)
    (case kt_dict => first | rfl | k_is)

