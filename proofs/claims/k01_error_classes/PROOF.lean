import PyProof.Rows.All
import Wide.All
import OpenK.AllK
import Wide.FinOn
import HandS.Base
import HandS.Call
import HandS.List
import HandS.Comp
import HandS.Ends
import HandS.Dict
import HandS.Iter
import HandS.Text
import HandS.Words
import HandS.IsInst
import HandS.Style
import HandS.Walk
import HandS.TupAny
import HandS.More
import HandS.Exc
import HandS.ExcOwn
import HandS.ExcInit
import HandS.ExcField
import HandS.WordsExc
import HandS.Slots
import HandS.Star
import HandS.ClsMeth
import HandS.Property
import HandS.Deep
import HandS.Strs
import HandS.RaiseMore
import HandS.CallSlots
import KE.GoesMore
import KE.KExcInit
import KE.KExcIs
import HandS.ExcIs
import PySem.Challenge.RW_pulledout_k01_error_classes
set_option Elab.async false
set_option linter.all false
set_option maxRecDepth 100000
set_option maxHeartbeats 4000000
/-! What holds of no program alone: heaps, data at a value, a pool that is drawn from. -/
namespace GG
open PySem PySem.Spec PyProof.Rows L2 TL
theorem same_upd {H : Hp} {p : Addr} {o : HO} (h : H p = none) : Same H (upd H p o) := fun b x e => by
  rw [upd_ne (ne_of_none e h)]
  exact e
/-- behind a store into a new object all that stood before stands -/
theorem same_st {H H1 : Hp} {p : Addr} {o : HO} (s : Same H H1) (h : H p = none) : Same H (upd H1 p o) := fun b x e => by
  rw [upd_ne (ne_of_none e h)]
  exact s b x e
/-- each number lies below its size -/
def Below (zs ns : List Int) : Prop := ∀ (i : Nat) (z n : Int), zs[i]? = some z → ns[i]? = some n → 0 ≤ n ∧ n < z
theorem below_snoc {zs ns : List Int} {z n : Int} (h : Below zs ns) (hz : zs[ns.length]? = some z) (h0 : 0 ≤ n) (h1 : n < z) : Below zs (ns ++ [n]) := by
  intro i y m hy hm
  by_cases hi : i < ns.length
  · rw [List.getElem?_append_left hi] at hm
    exact h i y m hy hm
  · rw [List.getElem?_append_right (by omega)] at hm
    have e : i - ns.length = 0 := by
      have q := (List.getElem?_eq_some_iff.mp hm).1
      simp at q
      omega
    have ei : i = ns.length := by omega
    subst ei
    rw [e] at hm
    have em : n = m := Option.some.inj hm
    have ey : z = y := Option.some.inj (hz.symm.trans hy)
    subst em ey
    exact ⟨h0, h1⟩
theorem small_mod (x : Int) : (x % 2147483629).natAbs < 2 ^ 64 := by
  have h1 := Int.emod_nonneg x (show (2147483629 : Int) ≠ 0 by decide)
  have h2 := Int.emod_lt_of_pos x (show (0 : Int) < 2147483629 by decide)
  omega
/-! ### data -/
def tyName : PyData → String
  | .none => "NoneType"
  | .bool _ => "bool"
  | .int _ => "int"
  | .str _ => "str"
  | .list _ => "list"
  | .tuple _ => "tuple"
  | .dict _ => "dict"
def isTup : PyData → Bool
  | .tuple _ => true
  | _ => false
def isStr : PyData → Bool
  | .str _ => true
  | _ => false
theorem isi_tup {K : PySem.W.Frag} (d : PyData) : PySem.W.kitOne K (.type (tyName d)) (.type "tuple") = some (isTup d) := by
  cases d
  · exact kit_ty (show kitB "NoneType" "tuple" = some false by decide +kernel)
  · exact kit_ty (show kitB "bool" "tuple" = some false by decide +kernel)
  · exact kit_ty (show kitB "int" "tuple" = some false by decide +kernel)
  · exact kit_ty (show kitB "str" "tuple" = some false by decide +kernel)
  · exact kit_ty (show kitB "list" "tuple" = some false by decide +kernel)
  · exact kit_ty (show kitB "tuple" "tuple" = some true by decide +kernel)
  · exact kit_ty (show kitB "dict" "tuple" = some false by decide +kernel)
theorem isi_str {K : PySem.W.Frag} (d : PyData) : PySem.W.kitOne K (.type (tyName d)) (.type "str") = some (isStr d) := by
  cases d
  · exact kit_ty (show kitB "NoneType" "str" = some false by decide +kernel)
  · exact kit_ty (show kitB "bool" "str" = some false by decide +kernel)
  · exact kit_ty (show kitB "int" "str" = some false by decide +kernel)
  · exact kit_ty (show kitB "str" "str" = some true by decide +kernel)
  · exact kit_ty (show kitB "list" "str" = some false by decide +kernel)
  · exact kit_ty (show kitB "tuple" "str" = some false by decide +kernel)
  · exact kit_ty (show kitB "dict" "str" = some false by decide +kernel)
theorem Rd.same {H H' : Hp} {a : Addr} {o : HO} (s : Same H H') (h : Rd H a o) : Rd H' a o := by
  rcases h with h | ⟨u, h⟩
  · exact .inl (s _ _ h)
  · exact .inr ⟨u, s _ _ h⟩
theorem Same.seqT {K : PySem.W.Frag} {H H' : Hp} {a : Addr} {xs : List V} (e : Same H H') (h : SqT K H a xs) : SqT K H' a xs := by
  rcases h with h | h
  · exact .inl (Rd.same e h)
  · exact .inr h
mutual
theorem dp_same {K : PySem.W.Frag} {H H' : Hp} (e : Same H H') : ∀ (d : PyData) (v : V), Dp K H v d → Dp K H' v d
  | .none, _, h => by cases h; exact .non
  | .bool b, _, h => by cases h; exact .bl b
  | .int i, _, h => by cases h; exact .int i
  | .str x, _, h => by cases h; exact .str x
  | .list ds, _, h => by
    cases h with
    | lst hs ha => exact .lst (Same.seq e hs) (dpAll_same e ds _ ha)
  | .tuple ds, _, h => by
    cases h with
    | tup hs ha => exact .tup (Same.seqT e hs) (dpAll_same e ds _ ha)
  | .dict _, _, h => by cases h
theorem dpAll_same {K : PySem.W.Frag} {H H' : Hp} (e : Same H H') : ∀ (ds : List PyData) (vs : List V), DpAll K H vs ds → DpAll K H' vs ds
  | [], _, h => by cases h; exact .nil
  | d :: ds, _, h => by
    cases h with
    | cons h1 h2 => exact .cons (dp_same e d _ h1) (dpAll_same e ds _ h2)
end
theorem dpAll_len {K : PySem.W.Frag} {H : Hp} : ∀ {vs : List V} {ds : List PyData}, DpAll K H vs ds → vs.length = ds.length
  | _, _, .nil => rfl
  | _, _, .cons _ h => by rw [List.length_cons, List.length_cons, dpAll_len h]
theorem dpAll_get {K : PySem.W.Frag} {H : Hp} : ∀ {vs : List V} {ds : List PyData} {i : Nat} {v : V}, DpAll K H vs ds → vs[i]? = some v → ∃ d, ds[i]? = some d ∧ Dp K H v d
  | _, _, 0, _, .cons (d := d) h _, e => by
    have e : _ = _ := Option.some.inj e
    subst e
    exact ⟨d, rfl, h⟩
  | _, _, i + 1, _, .cons _ h, e => dpAll_get (i := i) h e
theorem dp_ty {K : PySem.W.Frag} {H : Hp} {v : V} {d : PyData} (h : Dp K H v d) : TyX K H v (.type (tyName d)) := by
  cases h with
  | non => exact .base .non
  | bl b => exact .base (.bl b)
  | int i => exact .base (.int i)
  | str x => exact .base (.str x)
  | lst hs _ =>
    rcases hs with (h | ⟨o, h⟩) | ⟨o, its, n, h1, h2, _⟩
    · exact .base (.lst h)
    · exact .base (.frz h)
    · exact .kList h1 h2
  | tup hs _ =>
    rcases hs with (h | ⟨o, h⟩) | ⟨o, its, n, h1, h2, _⟩
    · exact .base (.tup h)
    · exact .fTuple h
    · exact .kTuple h1 h2
mutual
/-- sane texts, nothing long -/
def okD : PyData → Bool
  | .str z => decide (z.length ≤ 1000) && z.cps.all (· < 0x110000)
  | .list ds | .tuple ds => decide (ds.length ≤ 1000) && okAll ds
  | .dict _ => false
  | _ => true
def okAll : List PyData → Bool
  | [] => true
  | d :: ds => okD d && okAll ds
end
mutual
theorem can_ok : ∀ d : PyData, okD d = true → PyData.canLay0 d = true
  | .none, _ => rfl
  | .bool _, _ => rfl
  | .int _, _ => rfl
  | .str z, h => (Bool.and_eq_true_iff.mp h).2
  | .list ds, h => canAll_ok ds (Bool.and_eq_true_iff.mp h).2
  | .tuple ds, h => canAll_ok ds (Bool.and_eq_true_iff.mp h).2
theorem canAll_ok : ∀ ds : List PyData, okAll ds = true → PyData.canLayAll0 ds = true
  | [], _ => rfl
  | d :: ds, h => by
    have h := Bool.and_eq_true_iff.mp h
    show (PyData.canLay0 d && PyData.canLayAll0 ds) = true
    rw [can_ok d h.1, canAll_ok ds h.2]
    rfl
end
theorem okAll_iff {ds : List PyData} : okAll ds = true ↔ ∀ d ∈ ds, okD d = true := by
  induction ds with
  | nil => simp [okAll]
  | cons d r ih => simp [okAll, ih]
theorem depthAll_le {ds : List PyData} {n : Nat} : PyData.depthAll ds ≤ n ↔ ∀ d ∈ ds, PyData.depth d ≤ n := by
  induction ds with
  | nil => simp [PyData.depthAll]
  | cons d r ih => simp [PyData.depthAll, ih, Nat.max_le]
def Good (n : Nat) (d : PyData) : Prop := okD d = true ∧ PyData.depth d ≤ n
theorem Good.lay {n : Nat} {d : PyData} (h : Good n d) (hn : n ≤ 64) : SeqAt.shaped d = true := by
  unfold SeqAt.shaped
  rw [Bool.and_eq_true, decide_eq_true_eq]
  exact ⟨can_ok d h.1, Nat.le_trans h.2 hn⟩
theorem Good.tup {n : Nat} {ds : List PyData} : Good (n + 1) (.tuple ds) ↔ ds.length ≤ 1000 ∧ ∀ d ∈ ds, Good n d := by
  unfold Good
  show (decide (ds.length ≤ 1000) && okAll ds) = true ∧ PyData.depthAll ds + 1 ≤ n + 1 ↔ _
  rw [Bool.and_eq_true, decide_eq_true_eq, okAll_iff, Nat.add_le_add_iff_right, depthAll_le]
  exact ⟨fun h => ⟨h.1.1, fun d hd => ⟨h.1.2 d hd, h.2 d hd⟩⟩, fun h => ⟨⟨h.1, fun d hd => (h.2 d hd).1⟩, fun d hd => (h.2 d hd).2⟩⟩
theorem Good.lst {n : Nat} {ds : List PyData} : Good (n + 1) (.list ds) ↔ ds.length ≤ 1000 ∧ ∀ d ∈ ds, Good n d := Good.tup
theorem Good.mono {n m : Nat} {d : PyData} (h : Good n d) (k : n ≤ m) : Good m d := ⟨h.1, Nat.le_trans h.2 k⟩
/-- a value that stands for the data d; or any dict -/
def Val (K : PySem.W.Frag) (H : Hp) (x : V) (d : PyData) : Prop := (Dp K H x d ∧ Good 60 d) ∨ (d = .dict [] ∧ ∃ (a : Addr) (kvs : List (Key × V)), x = .ref a ∧ H a = some (.dK kvs))
theorem Val.ty {K : PySem.W.Frag} {H : Hp} {x : V} {d : PyData} (h : Val K H x d) : TyX K H x (.type (tyName d)) := by
  rcases h with h | ⟨rfl, a, kvs, rfl, h⟩
  · exact dp_ty h.1
  · exact .base (.dK h)
theorem Val.str {K : PySem.W.Frag} {H : Hp} {x : V} {z : Str} (h : Val K H x (.str z)) : x = .str z ∧ z.length ≤ 1000 ∧ (∀ c ∈ z.cps.toList, c < 1114112) := by
  rcases h with ⟨h, g⟩ | ⟨h, _⟩
  · cases h
    obtain ⟨h1, h2⟩ := Bool.and_eq_true_iff.mp g.1
    refine ⟨rfl, of_decide_eq_true h1, fun c hc => ?_⟩
    rw [← Array.all_toList, List.all_eq_true] at h2
    exact of_decide_eq_true (h2 c hc)
  · cases h
theorem Val.tup {K : PySem.W.Frag} {H : Hp} {x : V} {ds : List PyData} (h : Val K H x (.tuple ds)) : ∃ (a : Addr) (xs : List V), x = .ref a ∧ SqT K H a xs ∧ DpAll K H xs ds ∧ xs.length = ds.length ∧ ds.length ≤ 1000 ∧ ∀ (i : Nat) (d : PyData), ds[i]? = some d → ∃ v, xs[i]? = some v ∧ Val K H v d := by
  rcases h with ⟨h, g⟩ | ⟨h, _⟩
  · cases h with
    | @tup a xs _ hs ha =>
      obtain ⟨g1, g2⟩ := (Good.tup (n := 59)).mp g
      have hl := dpAll_len ha
      refine ⟨_, _, rfl, hs, ha, hl, g1, fun i d hd => ?_⟩
      have hi : i < ds.length := (List.getElem?_eq_some_iff.mp hd).1
      have hi2 : i < xs.length := by omega
      obtain ⟨d', hd', hp⟩ := dpAll_get ha (List.getElem?_eq_getElem hi2)
      have e : d' = d := Option.some.inj (hd'.symm.trans hd)
      subst e
      exact ⟨_, List.getElem?_eq_getElem hi2, .inl ⟨hp, (g2 d' (List.mem_of_getElem? hd)).mono (by decide)⟩⟩
  · cases h
theorem Val.same {K : PySem.W.Frag} {H H' : Hp} {x : V} {d : PyData} (h : Val K H x d) (s : Same H H') : Val K H' x d := by
  rcases h with ⟨h, g⟩ | ⟨rfl, a, kvs, rfl, h⟩
  · exact .inl ⟨dp_same s d x h, g⟩
  · exact .inr ⟨rfl, a, kvs, rfl, s _ _ h⟩
theorem inV_words {z : Str} : ∀ ws : List Str, inV (.str z) (ws.map V.str) = ws.any (· == z) := fun ws => by
  unfold inV
  rw [List.any_map]
  rfl
theorem flat_words : ∀ ws : List Str, (ws.map V.str).all flatV = true := fun ws => by
  rw [List.all_map, List.all_eq_true]
  intro x _
  rfl
theorem yes_then {A B : Hp → Prop} {σ : L2.St} {H : Hp} (h : A H) : tYes σ H (fun b H3 => if b = true then A H3 else B H3) := by
  show (if true = true then A H else B H)
  rw [if_pos rfl]
  exact h
def letB (c : Nat) : Bool := !decide ([c] < [97]) && !decide ([122] < [c])
/-! ### the mathematics of the texts -/
/-- the 26 letters, as the law writes them -/
abbrev abcS : Str := "abcdefghijklmnopqrstuvwxyz"
theorem abc_list : abcS.cps.toList = (List.range 26).map (97 + ·) := by decide +kernel
theorem abc_mem (c : Nat) : c ∈ abcS.cps.toList ↔ 97 ≤ c ∧ c ≤ 122 := by
  rw [abc_list]
  simp only [List.mem_map, List.mem_range]
  constructor
  · rintro ⟨a, h, rfl⟩
    omega
  · intro h
    exact ⟨c - 97, by omega, by omega⟩
theorem one_lt (a b : Nat) : ([a] < [b]) ↔ a < b := by
  simp [List.cons_lt_cons_iff]
theorem letB_abc (c : Nat) : letB c = decide (c ∈ abcS.cps.toList) := by
  unfold letB
  rw [Bool.eq_iff_iff]
  simp only [Bool.and_eq_true, Bool.not_eq_true', decide_eq_false_iff_not, decide_eq_true_eq, one_lt, abc_mem]
  omega
/-- a text of Python's own signs -/
def Sane (z : Str) : Prop := ∀ c ∈ z.cps.toList, c < 1114112
theorem sane_odds {z : Str} (h : Sane z) : ∀ y ∈ (z.cps.toList.filter fun c => !decide (c ∈ abcS.cps.toList)).map (fun c => (⟨#[c]⟩ : Str)), Sane y := by
  intro y hy c hc
  obtain ⟨d, hd, rfl⟩ := List.mem_map.mp hy
  have e : c = d := by simpa using hc
  rw [e]
  exact h d ((List.mem_filter.mp hd).1)
def oddC (c : Nat) : Bool := !decide (c ∈ abcS.cps.toList)
def odds (cs : List Nat) : List Str := (cs.filter oddC).map fun c => ⟨#[c]⟩
theorem odds_snoc {cs : List Nat} {i c : Nat} (hc : cs[i]? = some c) : odds (cs.take (i + 1)) = odds (cs.take i) ++ (if oddC c = true then [⟨#[c]⟩] else []) := by
  unfold odds
  rw [List.take_add_one, hc, List.filter_append, List.map_append]
  congr 1
  show List.map _ (List.filter oddC [c]) = _
  cases h : oddC c <;> simp [h]
theorem odds_len (cs : List Nat) : (odds cs).length ≤ cs.length := by
  unfold odds
  rw [List.length_map]
  exact List.length_filter_le ..
theorem odds_nil (cs : List Nat) : (odds cs).isEmpty = cs.all letB := by
  unfold odds
  rw [List.isEmpty_map]
  induction cs with
  | nil => rfl
  | cons c r ih =>
    rw [List.filter_cons, List.all_cons, letB_abc, ← ih]
    unfold oddC
    cases decide (c ∈ abcS.cps.toList) <;> rfl
theorem dp_strs {K : PySem.W.Frag} {H : Hp} : ∀ ys : List Str, DpAll K H (ys.map V.str) (ys.map PyData.str)
  | [] => .nil
  | y :: r => .cons (.str y) (dp_strs r)
theorem strs_can : ∀ ys : List Str, (∀ y ∈ ys, Sane y) → PyData.canLayAll0 (ys.map PyData.str) = true ∧ PyData.depthAll (ys.map PyData.str) ≤ 1
  | [], _ => ⟨rfl, by decide⟩
  | y :: r, h => by
    obtain ⟨h1, h2⟩ := strs_can r fun z hz => h z (List.mem_cons_of_mem _ hz)
    refine ⟨?_, ?_⟩
    · show (PyData.canLay0 (PyData.str y) && PyData.canLayAll0 (r.map PyData.str)) = true
      rw [h1, Bool.and_true]
      show y.cps.all (· < 0x110000) = true
      rw [← Array.all_toList, List.all_eq_true]
      intro c hc
      exact decide_eq_true (h y (List.mem_cons_self ..) c hc)
    · show max (PyData.depth (PyData.str y)) (PyData.depthAll (r.map PyData.str)) ≤ 1
      exact Nat.max_le.mpr ⟨by simp [PyData.depth], h2⟩
theorem strs_lay (ys : List Str) (h : ∀ y ∈ ys, Sane y) : SeqAt.shaped (PyData.list (ys.map PyData.str)) = true := by
  obtain ⟨h1, h2⟩ := strs_can ys h
  unfold SeqAt.shaped
  rw [Bool.and_eq_true, decide_eq_true_eq]
  refine ⟨h1, ?_⟩
  show PyData.depthAll (ys.map PyData.str) + 1 ≤ 64
  omega
theorem strs_eqv (ys : List Str) : PyData.eqv (PyData.list (ys.map PyData.str)) (PyData.list []) = ys.isEmpty := by
  cases ys with
  | nil => rfl
  | cons y r => rfl
section
variable {K : PySem.W.Frag}
theorem Val.dp {H : Hp} {x : V} {ds : List PyData} (h : Val K H x (.tuple ds)) : Dp K H x (.tuple ds) ∧ Good 60 (.tuple ds) := by
  rcases h with h | ⟨h, _⟩
  · exact h
  · cases h
theorem eqv_unit (ds : List PyData) : PyData.eqv (.tuple ds) (.tuple []) = ds.isEmpty := by
  cases ds <;> rfl
theorem two {α : Type} {r : List α} (h : r.length = 2) : ∃ a b, r = [a, b] := by
  match r, h with
  | [a, b], _ => exact ⟨a, b, rfl⟩
theorem filt_snoc {es : List PyData} {i : Nat} {e : PyData} (h : es[i]? = some e) (g : PyData → Bool) : (es.take (i + 1)).filter g = (es.take i).filter g ++ (if g e = true then [e] else []) := by
  rw [List.take_add_one, h, List.filter_append]
  congr 1
  show List.filter g [e] = _
  cases k : g e <;> simp [k]
theorem filt_all (es : List PyData) (g : PyData → Bool) : (es.filter fun e => !g e).isEmpty = es.all g := by
  induction es with
  | nil => rfl
  | cons e r ih =>
    rw [List.filter_cons, List.all_cons, ← ih]
    cases k : g e <;> simp
theorem eqv_nil (es : List PyData) : PyData.eqv (.list es) (.list []) = es.isEmpty := by
  cases es <;> rfl
theorem dpAll_app {H : Hp} : ∀ {xs ys : List V} {ds es : List PyData}, DpAll K H xs ds → DpAll K H ys es → DpAll K H (xs ++ ys) (ds ++ es)
  | _, _, _, _, .nil, k => k
  | _, _, _, _, .cons h r, k => .cons h (dpAll_app r k)
theorem Val.dp1 {H : Hp} {x : V} {d : PyData} (h : Val K H x d) (k : ∀ e, d ≠ .dict e) : Dp K H x d := by
  rcases h with h | ⟨h, _⟩
  · exact h.1
  · exact absurd h (k _)
theorem okD_dict {d : PyData} (h : okD d = true) : ∀ e, d ≠ .dict e := by
  intro e k
  subst k
  cases h
/-! ### the pool: what stands apart from it -/
def Rest (p : Addr) (R H : Hp) : Prop := Same R H ∧ R p = none ∧ ∃ (d : Addr) (ns : List Int) (k : Int), H p = some (.lst [.ref d, .int k]) ∧ R d = some (.lst (ns.map V.int)) ∧ 0 ≤ k
def Keep (p : Addr) (H H' : Hp) : Prop := ∀ b, b ≠ p → ∀ o, H b = some o → H' b = some o
structure Go (p : Addr) (R H R' H' : Hp) : Prop where
  same : Same R R'
  rest : Rest p R' H'
  keep : Keep p H H'
  fresh : ∀ b o, H b = some o → R b = none → R' b = none
theorem Rest.go {p : Addr} {R H : Hp} (k : Rest p R H) : Go p R H R H := ⟨Same.refl _, k, fun _ _ _ h => h, fun _ _ _ h => h⟩
theorem Go.trans {p : Addr} {R H R1 H1 R2 H2 : Hp} (a : Go p R H R1 H1) (b : Go p R1 H1 R2 H2) : Go p R H R2 H2 :=
  ⟨a.same.trans b.same, b.rest, fun c hc o h => b.keep c hc o (a.keep c hc o h), fun c o h hr => by
    by_cases e : c = p
    · rw [e]
      exact b.rest.2.1
    · exact b.fresh c o (a.keep c e o h) (a.fresh c o h hr)⟩
theorem Rest.ne {p D : Addr} {R H : Hp} (k : Rest p R H) (h : H D = none) : D ≠ p := fun e => by
  obtain ⟨_, _, d, ns, n, hp, _⟩ := k
  rw [e, hp] at h
  cases h
theorem Go.new {p t : Addr} {R H : Hp} {o : HO} (k : Rest p R H) (h : H t = none) : Go p R H (upd R t o) (upd H t o) := by
  have hne := k.ne h
  obtain ⟨s, hRp, d, ns, n, hp, hd, hn⟩ := k
  refine ⟨same_upd (s.free h), ⟨fun b x e => ?_, ?_, d, ns, n, ?_, (same_upd (s.free h)) _ _ hd, hn⟩, fun b _ x e => same_upd h b x e, fun b x e hr => ?_⟩
  · by_cases hb : b = t
    · subst hb
      rw [upd_same] at e ⊢
      exact e
    · rw [upd_ne hb] at e ⊢
      exact s b x e
  · rw [upd_ne hne.symm]
    exact hRp
  · rw [upd_ne hne.symm]
    exact hp
  · rw [upd_ne (ne_of_none e h)]
    exact hr
theorem Go.same_heap {p : Addr} {R H H' : Hp} (k : Rest p R H) (s : Same H H') : Go p R H R H' := by
  obtain ⟨s0, hRp, d, ns, n, hp, hd, hn⟩ := k
  exact ⟨Same.refl _, ⟨s0.trans s, hRp, d, ns, n, s _ _ hp, hd, hn⟩, fun b _ o h => s b o h, fun _ _ _ h => h⟩
/-- a store into a list that is being made -/
theorem Rest.put {p D : Addr} {R H : Hp} {o : HO} (k : Rest p R H) (hR : R D = none) (hne : D ≠ p) : Rest p R (upd H D o) := by
  obtain ⟨s0, hRp, d, ns, n, hp, hd, hn⟩ := k
  exact ⟨same_st s0 hR, hRp, d, ns, n, by rw [upd_ne hne.symm]; exact hp, hd, hn⟩
theorem Dp.go {p : Addr} {R H R' H' : Hp} {v : V} {d : PyData} (g : Go p R H R' H') (h : Dp K R v d) : Dp K R' v d := dp_same g.same d v h
/-- a comprehension that draws -/
theorem lc_go {J : It} {n : Nat} {G : Hp → Prop} {Y : Nat → Hp → V → Hp → Prop} (wk : Walk J n G Y) {p : Addr} {R H : Hp} {D : Addr} (hn : n ≤ 1000) (k : Rest p R H) (hD : H D = none) (hG : ∀ R1 H1, Go p R H R1 H1 → G H1)
    (PP : Hp → V → Prop) (Pm : ∀ R1 R2 y, Same R1 R2 → PP R1 y → PP R2 y) {g : TG} {tt : TT} {te : TE} {vs : List Nat} {σ : L2.St} {Qd : Hp → Prop}
    (hs : ∀ i x R1 H1 H1', i < n → Go p R H R1 H1 → Y i H1 x H1' → ∀ (C : V → Hp → Prop) (E : Hp → Prop), (∀ R2 H2 y, Go p R1 H1 R2 H2 → PP R2 y → C y H2) →
      g x (wipe σ vs) H1' fun σ2 H2 => wipe σ2 vs = wipe σ vs ∧ tt σ2 H2 fun b H3 => if b = true then te σ2 H3 C else E H3)
    (hd : ∀ R1 H1 ys, Go p R H R1 H1 → R1 D = some (.lst ys) → ys.length = n → (∀ y ∈ ys, PP R1 y) → Qd H1) :
    ∃ W : Nat → Nat → Hp → Prop, (∃ m, W 0 m (upd H D (.lst []))) ∧ ∀ i m H, W i m H →
      (J.stop i H ∧ Qd H) ∨ (J.go i H ∧ ∃ Nx : Hp → Prop, (∀ H', Nx H' → ∃ m', m' < m ∧ W (i + 1) m' H') ∧ ∀ x H', J.yld i H x H' → g x (wipe σ vs) H' fun σ2 H2 => wipe σ2 vs = wipe σ vs ∧ tt σ2 H2 fun b H3 =>
        if b = true then te σ2 H3 fun y H4 => ∃ acc, H4 D = some (.lst acc) ∧ acc.length < sizeLine ∧ Nx (upd H4 D (.lst (acc ++ [y]))) else Nx H3) := by
  have hne := k.ne hD
  have hRD : R D = none := k.1.free hD
  refine lc_it wk (fun i H' => ∃ R1, Go p R H R1 H' ∧ R1 D = none ∧ ∃ ys : List V, H' D = some (.lst ys) ∧ ys.length = i ∧ ∀ y ∈ ys, PP R1 y) ?_ ?_ ?_ ?_
  · refine ⟨R, ⟨Same.refl _, k.put hRD hne, fun b _ x e => same_upd hD b x e, fun _ _ _ h => h⟩, hRD, [], upd_same, rfl, fun y h => by cases h⟩
  · rintro i H' _ ⟨R1, g1, _⟩
    exact hG R1 H' g1
  · rintro i x H1 H1' hi ⟨R1, g1, hR1, ys, hy, hl, hP⟩ hY
    refine hs i x R1 H1 H1' hi g1 hY _ _ fun R2 H2 y g2 hp => ⟨ys, g2.keep D hne _ hy, small1000 (by omega), R2, ?_, g2.fresh D _ hy hR1, ys ++ [y], upd_same, ?_, ?_⟩
    · have g3 := g1.trans g2
      refine ⟨g3.same, g3.rest.put (g2.fresh D _ hy hR1) hne, fun b hb x e => ?_, g3.fresh⟩
      rw [upd_ne (ne_of_none e hD)]
      exact g3.keep b hb x e
    · rw [List.length_append, List.length_singleton, hl]
    · intro u hu
      rw [List.mem_append, List.mem_singleton] at hu
      rcases hu with hu | rfl
      · exact Pm R1 R2 u g2.same (hP u hu)
      · exact hp
  · rintro H1 ⟨R1, g1, hR1, ys, hy, hl, hP⟩
    have e1 : Same R1 (upd R1 D (.lst ys)) := same_upd hR1
    refine hd (upd R1 D (.lst ys)) H1 ys ⟨g1.same.trans e1, ?_, g1.keep, fun b o e hr => ?_⟩ upd_same hl fun y h => Pm _ _ y e1 (hP y h)
    · obtain ⟨s0, hRp, d, ns, n, hp, hd, hn⟩ := g1.rest
      refine ⟨fun b x e => ?_, by rw [upd_ne hne.symm]; exact hRp, d, ns, n, hp, e1 _ _ hd, hn⟩
      by_cases hb : b = D
      · subst hb
        rw [upd_same] at e
        rw [hy, e]
      · rw [upd_ne hb] at e
        exact s0 b x e
    · rw [upd_ne (ne_of_none e hD)]
      exact g1.fresh b o e hr
theorem at_int {xs : List V} {r : Int} (h0 : 0 ≤ r) (hi : r.toNat < xs.length) : ∃ v, atI xs r = some v ∧ v ∈ xs := by
  have e := atI_nat (List.getElem?_eq_getElem hi)
  rw [Int.toNat_of_nonneg h0] at e
  exact ⟨_, e, List.getElem_mem hi⟩
/-! ### data while the pool is drawn from -/
def cutG {α : Type} (ds : List α) (lo hi : Option Int) : List α := (ds.drop (HT.sIx ds.length 0 lo)).take (HT.sIx ds.length ds.length hi - HT.sIx ds.length 0 lo)
theorem dpAll_drop {H : Hp} : ∀ (n : Nat) {vs : List V} {ds : List PyData}, DpAll K H vs ds → DpAll K H (vs.drop n) (ds.drop n)
  | 0, _, _, h => h
  | n + 1, _, _, .nil => .nil
  | n + 1, _, _, .cons _ h => dpAll_drop n h
theorem dpAll_take {H : Hp} : ∀ (n : Nat) {vs : List V} {ds : List PyData}, DpAll K H vs ds → DpAll K H (vs.take n) (ds.take n)
  | 0, _, _, _ => .nil
  | n + 1, _, _, .nil => .nil
  | n + 1, _, _, .cons h r => .cons h (dpAll_take n r)
theorem dpAll_cut {H : Hp} {vs : List V} {ds : List PyData} (h : DpAll K H vs ds) (lo hi : Option Int) : DpAll K H (cutV vs lo hi) (cutG ds lo hi) := by
  have e := dpAll_len h
  unfold cutV cutG
  rw [e]
  exact dpAll_take _ (dpAll_drop _ h)
theorem cutG_mem {ds : List PyData} {lo hi : Option Int} {d : PyData} (h : d ∈ cutG ds lo hi) : d ∈ ds := List.mem_of_mem_drop (List.mem_of_mem_take h)
theorem cutG_len (ds : List PyData) (lo hi : Option Int) : (cutG ds lo hi).length ≤ ds.length := by
  unfold cutG
  rw [List.length_take, List.length_drop]
  omega
theorem cat_ok {p : Addr} {R H : Hp} {v u : V} {ds es : List PyData} {Q : VK} (k : Rest p R H) (hv : Dp K R v (.tuple ds)) (hu : Dp K R u (.tuple es)) (hl : ds.length + es.length ≤ 1000)
    (hq : ∀ x R' H', Go p R H R' H' → Dp K R' x (.tuple (ds ++ es)) → Q x H') : rCatA K v u H Q := by
  cases hv with
  | @tup a xs _ hs ha =>
    cases hu with
    | @tup b ys _ ht hb =>
      have l1 := dpAll_len ha
      have l2 := dpAll_len hb
      refine ⟨a, b, xs, ys, rfl, rfl, Same.seqT k.1 hs, Same.seqT k.1 ht, Nat.le_of_lt (small1000 (by omega)), fun e => ?_, fun _ e => ?_, fun _ _ t ht => ?_⟩
      · have e2 : ds = [] := List.eq_nil_of_length_eq_zero (by rw [← l1, e]; rfl)
        have := hq (.ref b) R H k.go
        rw [e2] at this
        exact this (.tup ht hb)
      · have e2 : es = [] := List.eq_nil_of_length_eq_zero (by rw [← l2, e]; rfl)
        have := hq (.ref a) R H k.go
        rw [e2, List.append_nil] at this
        exact this (.tup hs ha)
      · exact hq _ _ _ (Go.new k ht) (.tup (.inl (.inl upd_same)) (dpAll_same (Go.new k ht).same _ _ (dpAll_app ha hb)))
theorem slice_ok {p : Addr} {R H : Hp} {v : V} {ds : List PyData} {lo hi : Option Int} {Q : VK} (k : Rest p R H) (hv : Dp K R v (.tuple ds))
    (hq : ∀ x R' H', Go p R H R' H' → Dp K R' x (.tuple (cutG ds lo hi)) → Q x H') : rSlA K v lo hi H Q := by
  cases hv with
  | @tup a xs _ hs ha =>
    have l1 := dpAll_len ha
    refine ⟨a, xs, rfl, Same.seqT k.1 hs, fun e => ?_, fun _ t ht => ?_⟩
    · have e2 : cutG ds lo hi = ds := by
        unfold cutG
        rw [← l1, e.1, e.2, l1]
        show (ds.drop 0).take (ds.length - 0) = ds
        rw [List.drop_zero, Nat.sub_zero, List.take_length]
      have := hq (.ref a) R H k.go
      rw [e2] at this
      exact this (.tup hs ha)
    · exact hq _ _ _ (Go.new k ht) (.tup (.inl (.inl upd_same)) (dpAll_same (Go.new k ht).same _ _ (dpAll_cut ha lo hi)))
theorem slice_lo {p : Addr} {R H : Hp} {v : V} {ds : List PyData} {lo : Option Int} {σ : L2.St} {Q : VK} (k : Rest p R H) (hv : Dp K R v (.tuple ds))
    (hq : ∀ x R' H', Go p R H R' H' → Dp K R' x (.tuple (cutG ds lo none)) → Q x H') : tNoPart σ H (fun u H3 => rSlA K v lo u H3 Q) := slice_ok (hi := none) k hv hq
theorem lst_raw {p t : Addr} {R H : Hp} (vs : List V) (k : Rest p R H) (ht : H t = none) : Go p R H (upd R t (.lst vs)) (upd H t (.lst vs)) ∧ (upd R t (.lst vs)) t = some (.lst vs) := ⟨Go.new k ht, upd_same⟩
theorem tup_new {p t : Addr} {R H : Hp} {vs : List V} {ds : List PyData} (k : Rest p R H) (ht : H t = none) (hv : DpAll K R vs ds) : Go p R H (upd R t (.tup vs)) (upd H t (.tup vs)) ∧ Dp K (upd R t (.tup vs)) (.ref t) (.tuple ds) :=
  ⟨Go.new k ht, .tup (.inl (.inl upd_same)) (dpAll_same (Go.new (o := .tup vs) k ht).same _ _ hv)⟩
theorem lst_new {p t : Addr} {R H : Hp} {vs : List V} {ds : List PyData} (k : Rest p R H) (ht : H t = none) (hv : DpAll K R vs ds) : Go p R H (upd R t (.lst vs)) (upd H t (.lst vs)) ∧ Dp K (upd R t (.lst vs)) (.ref t) (.list ds) :=
  ⟨Go.new k ht, .lst (.inl (.inl upd_same)) (dpAll_same (Go.new (o := .lst vs) k ht).same _ _ hv)⟩
/-- some data of moderate size -/
def PD (K : PySem.W.Frag) (n : Nat) (R : Hp) (x : V) : Prop := ∃ d, Dp K R x d ∧ Good n d
theorem PD.same {n : Nat} {R R' : Hp} {x : V} (h : PD K n R x) (s : Same R R') : PD K n R' x := by
  obtain ⟨d, h, g⟩ := h
  exact ⟨d, dp_same s d x h, g⟩
theorem PD.mono {n m : Nat} {R : Hp} {x : V} (h : PD K n R x) (k : n ≤ m) : PD K m R x := by
  obtain ⟨d, h, g⟩ := h
  exact ⟨d, h, g.mono k⟩
theorem good_str {z : Str} (h : z.length ≤ 1000) (s : Sane z) (n : Nat) : Good n (.str z) := by
  refine ⟨?_, Nat.zero_le _⟩
  show (decide (z.length ≤ 1000) && z.cps.all (· < 0x110000)) = true
  rw [decide_eq_true h, Bool.true_and, ← Array.all_toList, List.all_eq_true]
  exact fun c hc => decide_eq_true (s c hc)
theorem good_t {n : Nat} {ds : List PyData} (h : ds.length ≤ 1000) (g : ∀ d ∈ ds, Good n d) : Good (n + 1) (.tuple ds) := Good.tup.mpr ⟨h, g⟩
end
theorem ints_can : ∀ ns : List Int, PyData.canLayAll0 (ns.map PyData.int) = true ∧ PyData.depthAll (ns.map PyData.int) ≤ 1
  | [] => ⟨rfl, by decide⟩
  | y :: r => by
    obtain ⟨h1, h2⟩ := ints_can r
    refine ⟨?_, ?_⟩
    · show (PyData.canLay0 (PyData.int y) && PyData.canLayAll0 (r.map PyData.int)) = true
      rw [h1]
      rfl
    · show max (PyData.depth (PyData.int y)) (PyData.depthAll (r.map PyData.int)) ≤ 1
      exact Nat.max_le.mpr ⟨by simp [PyData.depth], h2⟩
theorem ints_lay (ns : List Int) : SeqAt.shaped (PyData.list (ns.map PyData.int)) = true := by
  obtain ⟨h1, h2⟩ := ints_can ns
  unfold SeqAt.shaped
  rw [Bool.and_eq_true, decide_eq_true_eq]
  refine ⟨h1, ?_⟩
  show PyData.depthAll (ns.map PyData.int) + 1 ≤ 64
  omega
theorem dp_ints {K : PySem.W.Frag} {H : Hp} : ∀ ys : List Int, DpAll K H (ys.map V.int) (ys.map PyData.int)
  | [] => .nil
  | y :: r => .cons (.int y) (dp_ints r)
theorem same_of {H H1 : Hp} {p : Addr} {o : HO} (s : Same H H1) (h : H1 p = none) : Same H (upd H1 p o) := s.trans (same_upd h)
theorem joinL_mem : ∀ (ls : List (List Nat)) (c : Nat), c ∈ joinL [] ls → ∃ l ∈ ls, c ∈ l
  | [], c, h => by cases h
  | [l], c, h => ⟨l, List.mem_cons_self .., h⟩
  | l :: m :: r, c, h => by
    have h : c ∈ l ++ ([] ++ joinL [] (m :: r)) := h
    rw [List.nil_append, List.mem_append] at h
    rcases h with h | h
    · exact ⟨l, List.mem_cons_self .., h⟩
    · obtain ⟨x, hx, hc⟩ := joinL_mem (m :: r) c h
      exact ⟨x, List.mem_cons_of_mem _ hx, hc⟩
theorem joinL_len : ∀ (ls : List (List Nat)), (joinL [] ls).length = (ls.map List.length).sum
  | [] => rfl
  | [l] => by show l.length = _; simp
  | l :: m :: r => by
    show (l ++ ([] ++ joinL [] (m :: r))).length = _
    rw [List.nil_append, List.length_append, joinL_len (m :: r)]
    rfl
theorem join_facts (ys : List Str) (h : ∀ y ∈ ys, y.length = 1 ∧ Sane y) : (Txt.join "" ys).length = ys.length ∧ Sane (Txt.join "" ys) := by
  have e : (Txt.join "" ys).cps.toList = joinL [] (ys.map tl) := by
    rw [join_eq]
    exact tl_join "" ys
  refine ⟨?_, ?_⟩
  · show (Txt.join "" ys).cps.size = ys.length
    rw [← Array.length_toList, e, joinL_len, List.map_map]
    clear e
    induction ys with
    | nil => rfl
    | cons y r ih =>
      rw [List.map_cons, List.sum_cons, List.length_cons, ih fun z hz => h z (List.mem_cons_of_mem _ hz)]
      have e1 : (List.length ∘ tl) y = 1 := by
        show y.cps.toList.length = 1
        rw [Array.length_toList]
        exact (h y (List.mem_cons_self ..)).1
      rw [e1]
      omega
  · intro c hc
    rw [e] at hc
    obtain ⟨l, hl, hcl⟩ := joinL_mem _ c hc
    obtain ⟨y, hy, rfl⟩ := List.mem_map.mp hl
    exact (h y hy).2 c hcl
theorem join_le (ys : List Str) (h : ∀ y ∈ ys, y.length = 1) : (ys.map (·.length)).sum = ys.length := by
  induction ys with
  | nil => rfl
  | cons y r ih =>
    rw [List.map_cons, List.sum_cons, List.length_cons, ih fun z hz => h z (List.mem_cons_of_mem _ hz), h y (List.mem_cons_self ..)]
    omega
theorem cut_mem {xs : List V} {lo hi : Option Int} {x : V} {i : Nat} (h : (cutV xs lo hi)[i]? = some x) : x ∈ xs := by
  have h1 := List.mem_of_getElem? h
  unfold cutV at h1
  exact List.mem_of_mem_drop (List.mem_of_mem_take h1)
theorem at_abc {r : Int} (h0 : 0 ≤ r) (h1 : r < 26) : ∃ c, atI abcS.cps.toList r = some c ∧ c < 1114112 := by
  have hl : abcS.cps.toList.length = 26 := by decide +kernel
  have hi : r.toNat < abcS.cps.toList.length := by omega
  have e := atI_nat (List.getElem?_eq_getElem hi)
  rw [Int.toNat_of_nonneg h0] at e
  refine ⟨_, e, ?_⟩
  have := (abc_mem _).mp (List.getElem_mem hi)
  omega
section
variable {K : PySem.W.Frag}
theorem pd_all {n : Nat} {R : Hp} : ∀ {ys : List V}, (∀ y ∈ ys, PD K n R y) → ∃ ds, DpAll K R ys ds ∧ ∀ d ∈ ds, Good n d
  | [], _ => ⟨[], .nil, fun d h => by cases h⟩
  | y :: ys, h => by
    obtain ⟨d, h1, h2⟩ := h y (List.mem_cons_self ..)
    obtain ⟨ds, h3, h4⟩ := pd_all fun z hz => h z (List.mem_cons_of_mem _ hz)
    refine ⟨d :: ds, .cons h1 h3, fun e he => ?_⟩
    rcases List.mem_cons.mp he with rfl | he
    · exact h2
    · exact h4 e he
theorem signs_of : ∀ {ys : List V}, (∀ y ∈ ys, ∃ c : Nat, y = .str ⟨#[c]⟩ ∧ c < 1114112) → ∃ zs : List Str, ys = zs.map V.str ∧ zs.length = ys.length ∧ ∀ z ∈ zs, z.length = 1 ∧ Sane z
  | [], _ => ⟨[], rfl, rfl, fun z h => by cases h⟩
  | y :: ys, h => by
    obtain ⟨c, rfl, hc⟩ := h y (List.mem_cons_self ..)
    obtain ⟨zs, h3, h4, h5⟩ := signs_of fun z hz => h z (List.mem_cons_of_mem _ hz)
    refine ⟨⟨#[c]⟩ :: zs, by rw [h3]; rfl, by rw [List.length_cons, List.length_cons, h4], fun e he => ?_⟩
    rcases List.mem_cons.mp he with rfl | he
    · exact ⟨rfl, fun x hx => by
        have : x = c := by simpa using hx
        omega⟩
    · exact h5 e he
theorem mem_app {P : V → Prop} {a b c : List V} (e : a ++ b = c) (h1 : ∀ y ∈ a, P y) (h2 : ∀ y ∈ b, P y) : ∀ y ∈ c, P y := fun y h => by
  rw [← e] at h
  exact (List.mem_append.mp h).elim (h1 y) (h2 y)
end
theorem vals_abs : ∀ (us : List Value) (xs : List V), us.map absV = xs.map some → Vals xs us
  | [], [], _ => .nil
  | [], _ :: _, h => by cases h
  | _ :: _, [], h => by cases h
  | u :: us, x :: xs, h => by
    rw [List.map_cons, List.map_cons, List.cons.injEq] at h
    refine .cons ?_ (vals_abs us xs h.2)
    have h1 := h.1
    cases u <;> simp only [absV] at h1 <;> cases h1 <;> first | rfl | exact ⟨_, rfl⟩
theorem tup_of {K : PySem.W.Frag} {a : Addr} {od : Option Addr} {its : Array Value} {n : Nat} {sl : Array (Option Value)} {ws : List Str} (h : K.lookup a = some ⟨.type "tuple", od, .seq its n, sl⟩) (hv : its.toList.map absV = (ws.map V.str).map some) (hl : ws.length ≤ 1000) : ∀ H, SqT K H a (ws.map V.str) := fun H => by
  have r := vals_abs its.toList _ hv
  refine .inr ⟨_, its, n, h, rfl, rfl, ?_, r⟩
  have e := r.length
  simp only [List.length_map, Array.length_toList] at e
  exact Nat.le_of_lt (small1000 (by rw [← e]; exact hl))
end GG

/-! Objects of a program's own classes: made with a star, methods whose exceptions are wished for at the caller's slots, static methods, len, places in tuples of data, counts of texts, repr of what is flat. -/
namespace OO
open PySem PySem.Spec PyProof.Rows L2
theorem pat {CX : CXT} {X : Cx} {E : XK} (h : Passes CX X E) : ∀ σ : L2.St, PassesAt CX X σ ((fun _ => E) σ) := fun σ pins H s e s' I c => h pins σ H s e s' I c
section
variable {X : Cx} {CX : CXT} {k : Nat} {f C p g : Addr} {mc : Value} {sp : Sp} {E : L2.St → XK} {x m : Str} {e o : Expr} {es : List Expr} {te ta : TE} {t : TA} {q sp_ pos apos : Pos} {pl : Sem Bool} {pins : List (Addr × Obj)} {σ : L2.St} {H : Hp} {s : Shared}
theorem run_fnRS {Q : VK} {us : List Value} {vs : List V} (F : FnR X.prog X.w X.K X.mg X.base CX k f sp) (hr : Room k X.A) (hx : PassesAt CX X σ (E σ)) (I : Inv X pins σ H s) (r : Vals vs us) (h : sp vs H Q (E σ)) :
    codeAny (model X.prog X.w) X.A (.call (.ref f) ⟨us, []⟩) (fun r s' => match r with | .ok (.ret v) => EP X pins σ Q v s' | .ok _ => False | .error e => X.xe e s') s := by
  refine codeAny_mono (F X.A X.stack s H us vs Q (E σ) hr I.env0 r h) fun r s' hq => ?_
  cases r with
  | error e => exact hx pins H s e s' I hq
  | ok fl =>
    cases fl with
    | ret u => exact I.after hq
    | next => exact False.elim hq
    | brk => exact False.elim hq
    | cont => exact False.elim hq
/-- f(e, ..) by a positional promise -/
def tCallRS (sp : Sp) (E : L2.St → XK) (t : TA) : TE := fun σ H Q => t σ H fun vs H1 => sp vs H1 Q (E σ)
theorem pe_callRS (F : FnR X.prog X.w X.K X.mg X.base CX k f sp) (hr : Room k X.A) (hg : Gl X x) (hm : X.mg x = some (.ref f)) (hk : PySem.W.keepIn X.K (.ref f) = true) (hx : ∀ σ, PassesAt CX X σ (E σ))
    (ha : PA X (e :: es) t) (hdb : (x == ("__debug__" : Str)) = false := by decide) (he : starEach (e :: es) X.env = (false, eval e X.env) :: starEach es X.env := by rfl) (hpl : (backTo pos (starEach es X.env)).any (·.1) = false := by rfl) :
    PE X (.Call (.Name x q) (e :: es) [] pos) (tCallRS sp E t) := by
  refine ⟨fun pins s σ H Q I h => ?_⟩
  refine wpAny_Call_Name_kw (ld_glob I hg hm ?_ hdb)
  refine PySem.W.callWith_K (h₀ := X.base) I.ok.mod.kin hk (thn (ha.run pos pins s σ H _ I h) fun us s1 ⟨vs, H1, I1, r, q⟩ => ⟨I1.kIn, ?_⟩) he hpl
  exact wpAny_call (run_fnRS F hr (hx σ) I1 r q)
/-- o.m(e, ..) -/
def tMethRS (C : Addr) (m : Str) (sp : Sp) (E : L2.St → XK) (ta : TE) (t : TA) : TE := fun σ H Q => ta σ H fun x H1 => ∃ a dx fs, x = .ref a ∧ H1 a = some (.ins C dx fs) ∧ fs.lookup m = none ∧ t σ H1 fun vs H2 => sp (x :: vs) H2 Q (E σ)
theorem pe_methRS (he : PE X o ta) (c : Cls X.K C) (hm : Meth X.K C m f) (F : FnR X.prog X.w X.K X.mg X.base CX k f sp) (hr : Room k X.A) (hx : ∀ σ, PassesAt CX X σ (E σ)) (ha : PA X (e :: es) t)
    (hst : starEach (e :: es) X.env = (false, eval e X.env) :: starEach es X.env := by rfl) (hpl : (backTo pos (starEach es X.env)).any (·.1) = false := by rfl)
    (ht : eval (.Call (.Attribute o m apos) (e :: es) [] pos) X.env = (do
      let ov ← eval o X.env
      standAt apos.atName
      let (f, first) ← holding [ov] (getMethod ov m pl)
      callWith pos f first (backTo pos (starEach (e :: es) X.env)) (backToKw pos (keywordEach [] X.env))) := by rfl) :
    PE X (.Call (.Attribute o m apos) (e :: es) [] pos) (tMethRS C m sp E ta t) := by
  refine ⟨fun pins s σ H Q I h => ?_⟩
  refine PySem.W.methodCall_KW (pl := pl) (thn (he.run pins s σ H _ I h) fun u s1 ⟨x, H1, I1, rx, a, dx, fs, ex, ea, l, q⟩ => ?_) ht
  subst ex
  obtain rfl : u = Value.ref a := rx
  refine getmeth_ok I1 ea c hm l ?_
  refine PySem.W.callWith_K (first := [.ref a]) (h₀ := X.base) I.ok.mod.kin hm.kp (thn (ha.run pos pins s1 σ H1 _ I1 q) fun us s2 ⟨vs, H2, I2, r, q2⟩ => ⟨I2.kIn, ?_⟩) hst hpl
  exact wpAny_call (run_fnRS (us := .ref a :: us) (vs := .ref a :: vs) F hr (hx σ) I2 (.cons rfl r) q2)
/-- C.m is a static method: its record at p, its def at g -/
structure SMet (K : PySem.W.Frag) (C : Addr) (mc : Value) (m : Str) (p g : Addr) : Prop where
  at_ : PySem.W.findCls K (.ref C) mc m = some (.get (.builtin "staticmethod.__get__") (.ref p) .none (.ref C))
  rc : ∃ rest, PySem.W.recIn K p "staticmethod" = some (.ref g :: rest)
  kp : PySem.W.keepIn K (.ref g) = true
theorem getsm_ok {A : Around} {E : Value → Shared → Prop} {b : Bool} {Q : Value → Shared → Prop} (I : Inv X pins σ H s) (r : ClX.CRead X.K C mc) (k : SMet X.K C mc m p g) (h : ∀ s', Inv X pins σ H s' → Q (.ref g) s') : wpAny (model X.prog X.w) A (getAttr (.ref C) m b) Q E s := by
  obtain ⟨rest, hp⟩ := k.rc
  refine PySem.W.cls_bind I.kIn r.rd k.at_ ?_
  exact wpAny_call (PySem.W.sm_get (s := { s with toks := s.toks + 1 }) I.kIn hp (PySem.W.handed_on rfl (h _ (I.tok _))))
/-- C.m(e, ..) -/
def tSMethS (C : Addr) (sp : Sp) (E : L2.St → XK) (ta : TE) (t : TA) : TE := fun σ H Q => ta σ H fun x H1 => x = .ref C ∧ t σ H1 fun vs H2 => sp vs H2 Q (E σ)
theorem pe_smethS (he : PE X o ta) (r : ClX.CRead X.K C mc) (c : SMet X.K C mc m p g) (F : FnR X.prog X.w X.K X.mg X.base CX k g sp) (hr : Room k X.A) (hx : ∀ σ, PassesAt CX X σ (E σ)) (ha : PA X (e :: es) t)
    (hst : starEach (e :: es) X.env = (false, eval e X.env) :: starEach es X.env := by rfl) (hpl : (backTo pos (starEach es X.env)).any (·.1) = false := by rfl)
    (ht : eval (.Call (.Attribute o m apos) (e :: es) [] pos) X.env = (do
      let ov ← eval o X.env
      standAt apos.atName
      let (f, first) ← holding [ov] (getMethod ov m pl)
      callWith pos f first (backTo pos (starEach (e :: es) X.env)) (backToKw pos (keywordEach [] X.env))) := by rfl) :
    PE X (.Call (.Attribute o m apos) (e :: es) [] pos) (tSMethS C sp E ta t) := by
  refine ⟨fun pins s σ H Q I h => ?_⟩
  refine PySem.W.methodCall_KW (pl := pl) (thn (he.run pins s σ H _ I h) fun u s1 ⟨x, H1, I1, rx, ex, q⟩ => ?_) ht
  subst ex
  obtain rfl : u = Value.ref C := rx
  refine PySem.W.method_cls I1.kIn r.ga (getsm_ok I1 r c fun s2 I2 => ?_)
  refine PySem.W.callWith_K (first := []) (h₀ := X.base) I.ok.mod.kin c.kp (thn (ha.run pos pins s2 σ H1 _ I2 q) fun us s3 ⟨vs, H2, I3, r3, q2⟩ => ⟨I3.kIn, ?_⟩) hst hpl
  exact wpAny_call (run_fnRS F hr (hx σ) I3 r3 q2)
/-- C( *y), C(e, ..), C(): by a positional promise of __init__ -/
theorem run_makeRS {Q : VK} {us : List Value} {vs : List V} (M : Mk X.K C f) (F : FnR X.prog X.w X.K X.mg X.base CX k f sp) (hr : Room (k + 1) X.A) (hx : PassesAt CX X σ (E σ)) (I : Inv X pins σ H s) (r : Vals vs us)
    (h : ∀ x dx, H x = Option.none → H dx = Option.none → dx ≠ x → sp (V.ref x :: vs) (upd (upd H dx (.own x)) x (.ins C dx [])) (fun v H2 => v = .non ∧ Q (.ref x) H2) (E σ)) :
    wpAny (model X.prog X.w) X.A (call (.ref C) us) (EP X pins σ Q) X.xe s := by
  have hq := h (s.heap.objs.size + 1) s.heap.objs.size (I.hok.fresh (Nat.le_succ _)) (I.hok.fresh (Nat.le_refl _)) (Nat.ne_of_lt (Nat.lt_succ_self _))
  have I2 := Inv.made (C := C) I
  have r2 : Vals (V.ref (s.heap.objs.size + 1) :: vs) (Value.ref (s.heap.objs.size + 1) :: us) := .cons rfl r
  refine wpAny_call (make_map (f := f) I.kIn M.makes M.init (beq_iff_eq.mp M.fn) (codeAny_mono (F _ X.stack _ _ (Value.ref (s.heap.objs.size + 1) :: us) _ _ (E σ) (hr.make C us []) (I2.env0.make C us []) r2 hq) fun r s' hq' => ?_))
  cases r with
  | error e => exact hx pins _ _ e s' I2 hq'
  | ok fl =>
    cases fl with
    | ret u =>
      obtain ⟨v, H', I3, rv, ev, q3⟩ := I2.after hq'
      subst ev
      exact ⟨rv, ⟨V.ref (s.heap.objs.size + 1), H', I3, rfl, q3⟩⟩
    | next => exact False.elim hq'
    | brk => exact False.elim hq'
    | cont => exact False.elim hq'
def tMakeRS (C : Addr) (sp : Sp) (E : L2.St → XK) (t : TA) : TE := fun σ H Q => t σ H fun vs H1 => ∀ x dx, H1 x = Option.none → H1 dx = Option.none → dx ≠ x →
  sp (V.ref x :: vs) (upd (upd H1 dx (.own x)) x (.ins C dx [])) (fun v H2 => v = .non ∧ Q (.ref x) H2) (E σ)
theorem pe_makeRS (M : Mk X.K C f) (F : FnR X.prog X.w X.K X.mg X.base CX k f sp) (hr : Room (k + 1) X.A) (hg : Gl X x) (hm : X.mg x = some (.ref C)) (hx : ∀ σ, PassesAt CX X σ (E σ)) (ha : PA X (e :: es) t) (hdb : (x == ("__debug__" : Str)) = false := by decide)
    (he : starEach (e :: es) X.env = (false, eval e X.env) :: starEach es X.env := by rfl) (hpl : (backTo pos (starEach es X.env)).any (·.1) = false := by rfl) : PE X (.Call (.Name x q) (e :: es) [] pos) (tMakeRS C sp E t) := by
  refine ⟨fun pins s σ H Q I h => ?_⟩
  refine wpAny_Call_Name_kw (ld_glob I hg hm ?_ hdb)
  refine PySem.W.callWith_K (h₀ := X.base) I.ok.mod.kin M.kp (thn (ha.run pos pins s σ H _ I h) fun us s1 ⟨vs, H1, I1, r, q⟩ => ⟨I1.kIn, ?_⟩) he hpl
  exact run_makeRS M F hr (hx σ) I1 r q
theorem pe_makeRS0 (M : Mk X.K C f) (F : FnR X.prog X.w X.K X.mg X.base CX k f sp) (hr : Room (k + 1) X.A) (hg : Gl X x) (hm : X.mg x = some (.ref C)) (hx : ∀ σ, PassesAt CX X σ (E σ)) (hdb : (x == ("__debug__" : Str)) = false := by decide) :
    PE X (.Call (.Name x q) [] [] pos) (tMakeRS C sp E tNil) := by
  refine ⟨fun pins s σ H Q I h => ?_⟩
  refine wpAny_Call_Name_kw (ld_glob I hg hm ?_ hdb)
  exact PySem.W.callWith_K0 I.kIn M.kp (run_makeRS (us := []) M F hr (hx σ) I .nil h)
def tMakeSt (K : PySem.W.Frag) (C : Addr) (sp : Sp) (E : L2.St → XK) (te : TE) : TE := fun σ H Q => te σ H fun y H1 => ∃ a xs, y = V.ref a ∧ (SqT K H1 a xs ∨ SqL K H1 a xs) ∧ ∀ x dx, H1 x = Option.none → H1 dx = Option.none → dx ≠ x →
  sp (V.ref x :: xs) (upd (upd H1 dx (.own x)) x (.ins C dx [])) (fun v H2 => v = .non ∧ Q (.ref x) H2) (E σ)
theorem pe_makeSt (M : Mk X.K C f) (F : FnR X.prog X.w X.K X.mg X.base CX k f sp) (hr : Room (k + 1) X.A) (hg : Gl X x) (hm : X.mg x = some (.ref C)) (hx : ∀ σ, PassesAt CX X σ (E σ)) (he : PE X e te) (hdb : (x == ("__debug__" : Str)) = false := by decide)
    (hst : starEach [.Starred e sp_] X.env = [(true, eval e X.env)] := by rfl) : PE X (.Call (.Name x q) [.Starred e sp_] [] pos) (tMakeSt X.K C sp E te) := by
  refine ⟨fun pins s σ H Q I h => ?_⟩
  refine wpAny_Call_Name_kw (ld_glob I hg hm ?_ hdb)
  refine PySem.W.callWith_S (h₀ := X.base) I.ok.mod.kin M.kp (thn (he.run pins s σ H _ I h) fun v s1 ⟨y, H1, I1, ry, a, xs, ey, hxs, q⟩ => ?_) hst
  subst ey
  obtain rfl : v = Value.ref a := ry
  exact StX.star_any I1 hxs fun us s2 I2 rv => ⟨I2.kIn, run_makeRS M F hr (hx σ) I2 rv q⟩
/-- len(o), o an instance of the class at C whose __len__ is the def at g -/
theorem call_lenO {E : XK} (F : FnR X.prog X.w X.K X.mg X.base CX k g sp) (hr : Room (k + 1) X.A) (hx : Passes CX X E) (hs : PySem.W.findIn X.K (.ref C) "__len__" = some (some (.ref g))) (hf : PySem.W.isFn X.K (.ref g) = true) :
    CallR X (.builtin "len") (fun xs H Q => ∃ a dx fs, xs = [V.ref a] ∧ H a = some (.ins C dx fs) ∧ sp [V.ref a] H (fun v H' => ∃ n : Nat, v = .int n ∧ n ≤ 1000 ∧ Q (.int n) H') E) := by
  intro pins s σ H xs us Q I r h
  obtain ⟨a, dx, fs, rfl, ha, h⟩ := h
  obtain ⟨u, rfl, hu⟩ := vals1 r
  obtain rfl : u = Value.ref a := hu
  obtain ⟨mA, O, _, _, _, _⟩ := ins_get I.hok ha
  obtain ⟨od, J, _⟩ := O.look
  refine Calls.call_function_entry kind_len plain_len entry_len (args_len1 _) ?_
  unfold Builtin.«len»
  refine wpAny_bind (m := oneArg "len" _) (wpAny_pure ?_)
  have r2 : Vals [V.ref a] [Value.ref a] := .cons rfl .nil
  refine wpAny_bind (m := callSpecial? (.ref a) (Str.ofString "__len__")) (PySem.W.special_fn (args := []) I.kIn J hs (beq_iff_eq.mp hf) (wpAny_call (codeAny_mono (F X.A.in1 X.stack s H [.ref a] [.ref a] _ E hr.in1 I.env0.in1 r2 h) fun r s' hq => ?_)))
  cases r with
  | error e => exact hx pins σ H s e s' I hq
  | ok fl =>
    cases fl with
    | ret u =>
      obtain ⟨v, H', I3, rv, n, ev, hn, q3⟩ := I.after hq
      subst ev
      obtain ⟨tk, eu⟩ := (show ∃ tk, u = Value.int n tk from rv)
      subst eu
      refine wpAny_bind (wpAny_holding (wpAny_pure ?_))
      refine wpAny_bind (wpAny_letGo ?_)
      show wpAny _ _ (if ((n : Nat) : Int) < 0 then _ else _) _ _ _
      rw [if_neg (by omega)]
      show wpAny _ _ (if ((n : Nat) : Int) ≥ 2 ^ 63 then _ else _) _ _ _
      rw [if_neg (by omega)]
      exact wpAny_bind (wpAny_mkInt (wpAny_pure ⟨_, rfl, .int n, H', I3.tok _, ⟨_, rfl⟩, q3⟩))
    | next => exact False.elim hq
    | brk => exact False.elim hq
    | cont => exact False.elim hq
/-! ### data in tuples -/
def rInT (K : PySem.W.Frag) : R2 := fun x y H Q => ∃ d ds, Dp K H x d ∧ Dp K H y (.tuple ds) ∧ SeqAt.shaped d = true ∧ SeqAt.shaped (.tuple ds) = true ∧ Q (.bl (ds.any fun z => PyData.eqv z d)) H
theorem op_inT (hu : X.A.units + 65 < cLine) : OpR X (compareOp .In) (rInT X.K) := by
  intro pins s σ H x y v u Q I rx ry h
  obtain ⟨d, ds, hd, he, sd, se, q⟩ := h
  obtain ⟨as, r1⟩ := Dp.reads I d x v hd rx
  obtain ⟨bs, r2⟩ := Dp.reads I (.tuple ds) y u he ry
  exact SeqAt.in_tuple_reads r2 r1 (SeqAt.canLay_of_shaped se) (SeqAt.canLay_of_shaped sd) (room_in_shaped sd hu) ⟨.bl _, H, I, rfl, q⟩
/-- t.index(x): the first place of an equal one -/
def rIndexT (K : PySem.W.Frag) : V → List V → Hp → VK → Prop := fun x xs H Q => ∃ (a : Addr) (y : V) (d : PyData) (ds : List PyData) (j : Nat) (z : PyData), x = V.ref a ∧ xs = [y] ∧ Dp K H (V.ref a) (.tuple ds) ∧ Dp K H y d ∧
  SeqAt.shaped (.tuple ds) = true ∧ SeqAt.shaped d = true ∧ ds[j]? = some z ∧ PyData.eqv z d = true ∧ (∀ (m : Nat) (z' : PyData), m < j → ds[m]? = some z' → PyData.eqv z' d = false) ∧ Q (.int (j : Nat)) H
theorem mt_tindexD (hu : X.A.units + 65 < cLine) : MtR X "tuple.index" (rIndexT X.K) := by
  intro pins s σ H x xs v us Q I rx rxs h
  obtain ⟨a, y, d, ds, j, z, rfl, rfl, hl, hy, sl, sd, hz, hzj, hno, q⟩ := h
  cases rx
  cases rxs with
  | cons ry rt =>
    rename_i uy ut
    cases rt
    obtain ⟨bs, r1⟩ := Dp.reads I d y uy hy ry
    have hxs : PyData.canLayAll0 ds = true := SeqAt.canLay_of_shaped sl
    have hroom : X.A.units + 1 + min (PyData.depthAll ds) d.depth < cLine := room_in_shaped sd hu
    cases hl with
    | tup hs ha =>
      obtain ⟨its, rv, ⟨⟨cls, dd, data, sls⟩, ho, hc, n, hdt⟩, hlen⟩ := I.tuple hs
      simp only at hc hdt
      subst hc hdt
      obtain ⟨as, h4⟩ := Dp.readsAll I ds _ its ha rv
      have hn : its.length = ds.length := SeqAt.ReadsAll.length ds its as h4
      have hmap : its.map (SeqAt.readOf s.heap) = ds := SeqAt.readsAll_map ds its as hxs h4
      have hvl := rv.length
      obtain ⟨hjd, _⟩ := List.getElem?_eq_some_iff.mp hz
      have hjl : j < its.length := by omega
      have hj : j < its.toArray.size := by simpa using hjl
      have at_ : ∀ (m : Nat) (hm : m < its.toArray.size) (z' : PyData), ds[m]? = some z' → SeqAt.readOf s.heap its.toArray[m] = z' := by
        intro m hm z' hz'
        have hml : m < its.length := by simpa using hm
        rw [← hmap, List.getElem?_map, List.getElem?_eq_getElem hml] at hz'
        have e1 : SeqAt.readOf s.heap its[m] = z' := Option.some.inj (show some (SeqAt.readOf s.heap its[m]) = some z' from hz')
        simpa using e1
      refine call_meets PySem.F.slot_tuple_index ⟨_, ho, rfl⟩ PySem.F.entry_tuple_index (PySem.F.args_tuple_index_2 _ _)
        (TI.tuple_indexAt a its.toArray n dd sls uy (fun u => PyData.eqv (SeqAt.readOf s.heap u) d) j hj ?_ ?_) ⟨ho, SeqAt.items_eqAt (vs := its.toArray) (show ReadsAll s.heap its.toArray.toList ds as from h4) r1 hxs (SeqAt.canLay_of_shaped sd) hroom, ?_⟩
      · show PyData.eqv (SeqAt.readOf s.heap its.toArray[j]) d = true
        rw [at_ j hj z hz]
        exact hzj
      · intro m hm hmj
        have hmd : m < ds.length := by omega
        have hz' : ds[m]? = some ds[m] := List.getElem?_eq_getElem hmd
        show PyData.eqv (SeqAt.readOf s.heap its.toArray[m]) d = false
        rw [at_ m hm _ hz']
        exact hno m _ hmj hz'
      · exact ⟨.int (j : Nat), H, I.tok _, ⟨_, rfl⟩, q⟩
/-- xs.count(z), texts -/
def rCntS (K : PySem.W.Frag) : V → List V → Hp → VK → Prop := fun x xs H Q => ∃ (p : Addr) (ys : List Str) (z : Str), x = .ref p ∧ xs = [.str z] ∧ SqL K H p (ys.map V.str) ∧ Q (.int (countIn (.str z) (ys.map PyData.str))) H
theorem mt_lcountS : MtR X "list.count" (rCntS X.K) := by
  intro pins s σ H x xs v us Q I rx rxs h
  obtain ⟨p, ys, z, rfl, rfl, hs, q⟩ := h
  cases rx
  obtain ⟨u, rfl, ru⟩ := rxs.one
  obtain ⟨t, rfl⟩ := ru
  obtain ⟨its, rv, pl, hlen⟩ := I.list hs
  exact count_list_strs pl.isList (strsAre_of rv) ⟨.int _, H, I.tok _, ⟨_, rfl⟩, q⟩
/-! ### repr of what is flat -/
def reprV : V → Option Str
  | .int i => some (toString i)
  | .bl b => some (if b then "True" else "False")
  | .non => some "None"
  | .str z => some (reprText z)
  | _ => none
def rRepr (xs : List V) (H : Hp) (Q : VK) : Prop := ∃ v z, xs = [v] ∧ reprV v = some z ∧ (∀ i, v = .int i → i.natAbs.log2 < 1920) ∧ (∀ y, v = .str y → (reprText y).length ≤ sizeLine) ∧ Q (.str z) H
theorem call_reprF : CallR X (.builtin "repr") rRepr := by
  intro pins s σ H xs us Q I r h
  obtain ⟨v, z, rfl, hz, hi, hs, q⟩ := h
  obtain ⟨u, rfl, hu⟩ := vals1 r
  cases v with
  | int i =>
    obtain ⟨t, rfl⟩ := hu
    cases hz
    exact PySem.P.repr_of_int (hi i rfl) ⟨.str _, H, I.tok _, ⟨_, rfl⟩, q⟩
  | bl b =>
    cases (show u = Value.bool b from hu)
    cases hz
    exact PySem.P.repr_of_bool ⟨.str _, H, I.tok _, ⟨_, rfl⟩, q⟩
  | non =>
    cases (show u = Value.none from hu)
    cases hz
    exact PySem.P.repr_of_none ⟨.str _, H, I.tok _, ⟨_, rfl⟩, q⟩
  | str y =>
    obtain ⟨t, rfl⟩ := hu
    cases hz
    exact PySem.P.repr_of_str ⟨.str _, H, I.tok _, ⟨_, rfl⟩, q⟩ (hs y rfl)
  | byt b => cases hz
  | flt b => cases hz
  | ref a => cases hz
  | ty n => cases hz
end
end OO

/-! enumerate of a tuple. -/
namespace OO
open PySem PySem.Sem
open AutoSeq1 (wpAny_loadPart')
theorem meets_enumerate_newT (l : Addr) (items : Array Value) (n : Nat) (dct : Option Addr) (sl : Array (Option Value)) :
    Meets (Builtin.«enumerate.__new__» ⟨[.type "enumerate", .ref l], []⟩) (fun _ R s => s.heap.get? l = some { cls := .type "tuple", dict := dct, data := .seq items n, slots := sl } ∧
      R (.ok (.ret (.ref (s.heap.push { cls := .type "tuple_iterator", data := .fields #[.ref l, .int 0 0] }).objs.size)))
        { s with heap := (s.heap.push { cls := .type "tuple_iterator", data := .fields #[.ref l, .int 0 0] }).push { cls := .type "enumerate", data := .fields #[.none, .bool false, .ref s.heap.objs.size, rawInt 0, .none, .none] } }) :=
  .of_wp fun prog w A R s h => by
    obtain ⟨hp, g, d, tk, os⟩ := s; obtain ⟨hl, h⟩ := h
    have hsub := sub_enumerate
    have hL : Heap.IsTuple (Shared.heap ⟨hp, g, d, tk, os⟩) l items := ⟨_, hl, rfl, n, rfl⟩
    wp_walk using wpAny_loadPart' hl
    refine wpAny_stack_any fun st => wpAny_pure ?_
    split
    · rename_i c _ _ _ _ _
      cases (c == Value.type "enumerate")
      · wp_walk using wpAny_loadPart' hl, wpAny_pyIter_tuple hL
        exact ⟨_, rfl, h⟩
      · wp_walk using wpAny_loadPart' hl, wpAny_pyIter_tuple hL
        exact ⟨_, rfl, h⟩
    · wp_walk using wpAny_loadPart' hl, wpAny_pyIter_tuple hL
      exact ⟨_, rfl, h⟩
theorem call_enumerate_tuple {prog : Program} {w : World} {A : Around} {E : Value → Shared → Prop} {s : Shared} {l : Addr} {items : Array Value} {Q : Value → Shared → Prop} (hL : s.heap.IsTuple l items)
    (h : ∀ h', IsEnum h' (s.heap.objs.size + 1) s.heap.objs.size 0 .none → h'.IsTupleIter s.heap.objs.size l 0 → h'.objs.size = s.heap.objs.size + 2 →
      (∀ b o, s.heap.get? b = some o → h'.get? b = some o) → Q (.ref (s.heap.objs.size + 1)) { s with heap := h' }) :
    wpAny (model prog w) A (call (.type "enumerate") [.ref l]) Q E s := by
  obtain ⟨⟨c, dct, dt, sl⟩, hl, hc, n, hd⟩ := hL
  replace hc : c = .type "tuple" := hc
  replace hd : dt = .seq items n := hd
  subst hc hd
  refine callType_new F.called_enumerate (by decide) (F.typeCall_enumerate_1 _) (F.newCall_enumerate_1 _) (fun obj => F.args_object_init_2 obj _) F.entry_enumerate_new
    (meets_enumerate_newT l items n dct sl) ⟨hl, ?_⟩
  have hz : (s.heap.push { cls := .type "tuple_iterator", data := .fields #[.ref l, .int 0 0] }).objs.size = s.heap.objs.size + 1 := Heap.size_push ..
  show _ ∧ _
  rw [hz]
  have he : IsEnum ((s.heap.push { cls := .type "tuple_iterator", data := .fields #[.ref l, .int 0 0] }).push
      { cls := .type "enumerate", data := .fields #[.none, .bool false, .ref s.heap.objs.size, rawInt 0, .none, .none] }) (s.heap.objs.size + 1) s.heap.objs.size 0 .none := by
    have := Heap.get?_push_size (s.heap.push { cls := .type "tuple_iterator", data := .fields #[.ref l, .int 0 0] })
      (o := { cls := .type "enumerate", data := .fields #[.none, .bool false, .ref s.heap.objs.size, rawInt 0, .none, .none] }) rfl
    rw [hz] at this; exact this
  refine ⟨⟨_, he, rfl⟩, h _ he ⟨_, Heap.get?_push_of_some _ (Heap.get?_push_size _ rfl), rfl, rfl⟩ (by rw [Heap.size_push, hz]) fun b o x => Heap.get?_push_of_some _ (Heap.get?_push_of_some _ x)⟩
end OO
namespace OO
open PySem PySem.Spec PyProof.Rows L2
/-- the tuple at a, each item in a new pair -/
def IteT (K : PySem.W.Frag) (a : Addr) : It :=
  ⟨fun i H => ∃ (xs : List V) (x : V), SqT K H a xs ∧ xs[i]? = some x, fun i H v H' => ∃ T x, v = .ref T ∧ H T = none ∧ H' = upd H T (.tup [.int (i : Nat), x]) ∧ ∀ xs, SqT K H a xs → xs[i]? = some x, fun i H => ∃ xs : List V, SqT K H a xs ∧ xs.length ≤ i⟩
theorem tupIter_ne {h : Heap} {a it : Addr} {i : Nat} {its : Array Value} (p : h.IsTuple a its) (q : h.IsTupleIter it a i) : a ≠ it := fun z => by
  obtain ⟨o, ho, hc, _⟩ := p
  obtain ⟨o2, ho2, hc2, _⟩ := q
  rw [z, ho2] at ho
  have := Option.some.inj ho
  subst this
  rw [hc2] at hc
  exact absurd hc (by decide)
theorem enum_ne {h : Heap} {a e it : Addr} {i : Int} {old : Value} {its : Array Value} (p : h.IsTuple a its) (q : IsEnum h e it i old) : e ≠ a := fun z => by
  obtain ⟨o, ho, hc, _⟩ := p
  rw [← z, q] at ho
  have := Option.some.inj ho
  subst this
  exact absurd (Value.type.inj hc) (by decide)
theorem turn_enumT {P : Program} {w : World} {K : PySem.W.Frag} {elts : List Expr} {kk : Nat} {tpos : Pos} (a e it : Addr) :
    Turn P w K (.Tuple elts kk tpos) (IteT K a) [e, it] e (fun i h => (∃ old, IsEnum h e it ((i : Nat) : Int) old) ∧ h.IsTupleIter it a i ∧ e ≠ it) where
  mem := by simp
  obj := fun i h st b hb => by
    obtain ⟨⟨old, he⟩, ⟨o, ho, hc, hd⟩, _⟩ := st
    have e' : b = e ∨ b = it := by simpa using hb
    rcases e' with z | z
    · rw [z]; exact ⟨_, he, fun v q => nomatch q⟩
    · rw [z]; exact ⟨o, ho, fun v q => by rw [hd] at q; cases q⟩
  keep := fun i h h' st k => let ⟨⟨old, he⟩, hi, hne⟩ := st; ⟨⟨old, k e (by simp) _ he⟩, hi.at fun o q => k it (by simp) o q, hne⟩
  item := by
    intro X hP hw hK hc i pins s σ H E I hf st hg
    subst hP hw hK
    obtain ⟨⟨old, he⟩, hit, hne⟩ := st
    obtain ⟨xs, x, hq, hx⟩ := hg
    obtain ⟨its, rv, p, hz⟩ := I.tuple hq
    obtain ⟨u, hu, ru⟩ := rv.get hx
    have hel : e < s.heap.objs.size := Heap.lt_size he
    have hil : it < s.heap.objs.size := by obtain ⟨_, q, _⟩ := hit; exact Heap.lt_size q
    have hat := tupIter_ne p hit
    have hlt : i < its.toArray.size := by
      have := (List.getElem?_eq_some_iff.mp hu).1
      simpa using this
    refine wpAny_pyNext_enum_itemD (Draws.tuple (A := X.A.in1) (show X.A.in1.handled = none from I.ok.hd hc) it a hat its.toArray) he ⟨hit, p⟩ hlt hne (by
      have := enum_ne p he
      simp [hne, this]) fun x' h' tk hx' ho st' hT hsz hk => ?_
    have hit' := st'.1
    have ex : x' = u := by
      have h1 : its[i]? = some x' := by simpa using hx'
      exact Option.some.inj (h1.symm.trans hu)
    subst ex
    refine ⟨_, rfl, wpAny_letOwnedTupleGo_enum (s := { s with heap := h', toks := tk + 1 }) ho fun h'' he' sb => ?_⟩
    have hT2 : h''.get? s.heap.objs.size = some { cls := .type "tuple", data := .seq #[.int i tk, x'] } := (sb.2 _ (Nat.ne_of_gt hel)).trans hT
    have new : ObjOk X.prog X.w (upd H s.heap.objs.size (.tup [.int (i : Nat), x])) h'' s.heap.objs.size (.tup [.int (i : Nat), x]) :=
      ⟨by show 2 ≤ sizeLine; decide, [.int i tk, x'], .cons ⟨_, rfl⟩ (.cons ru .nil), ⟨_, hT2, rfl, _, rfl⟩⟩
    have I1 : Inv X pins σ (upd H s.heap.objs.size (.tup [.int (i : Nat), x])) { s with heap := h'', toks := tk + 1 } :=
      I.turnedNew (ch := [e, it]) (fun b ob hb q => (sb.2 b (fun z => hb (by simp [z]))).trans (hk b ob (fun z => hb (by simp [z])) (fun z => hb (by simp [z])) q)) hf (Nat.le_refl _) new
    refine ⟨.ref s.heap.objs.size, _, I1, rfl, ⟨_, x, rfl, I.hok.fresh (Nat.le_refl _), rfl, fun ys hy => by rw [I.tuple_inj hy hq]; exact hx⟩, ⟨⟨x', ?_⟩, hit'.at fun o q => (sb.2 it (Ne.symm hne)).trans q, hne⟩, fun b hb => ?_⟩
    · have e1 : ((i + 1 : Nat) : Int) = (i : Int) + 1 := by omega
      rw [e1]; exact he'
    · have hb' : b < s.heap.objs.size := by
        have e' : b = e ∨ b = it := by simpa using hb
        rcases e' with z | z
        · rw [z]; exact hel
        · rw [z]; exact hil
      rw [upd_ne (Nat.ne_of_lt hb')]
      exact (hf b hb).1
  done := by
    intro X hP hw hK hc i pins s σ H E I hf st hg
    subst hP hw hK
    obtain ⟨⟨old, he⟩, hit, hne⟩ := st
    obtain ⟨xs, hq, hx⟩ := hg
    obtain ⟨its, rv, p, hz⟩ := I.tuple hq
    obtain ⟨f0, f1, f2, f3, f4, f5⟩ := hf it (by simp)
    have hl := rv.length
    have hat := tupIter_ne p hit
    have hh : X.A.in1.handled = none := I.ok.hd hc
    have hT : s.TypeIs (.ref e) "enumerate" := ⟨_, he, rfl⟩
    show wpAny _ _ (pyNext (.ref e)) _ _ _
    unfold pyNext
    refine wpAny_bind (wpAny_attempt (wpAny_callSpecial?_slot (name := Str.ofString "__next__") hT F.slot_enumerate_next
      (wpAny_call_entry F.slot_enumerate_next hT F.entry_enumerate_next ?_ (F.args_enumerate_next_1 _))))
    show wpAny _ _ (field (.ref e) 2 >>= _) _ _ _
    refine wpAny_bind (wpAny_field he rfl (x := .ref it) rfl ?_)
    refine wpAny_bind (wpAny_nextOf_tuple_end hh hit p (by simp; omega) fun h' x eb hx' => ?_)
    obtain ⟨o, ho, hcl⟩ := hx'
    refine wpAny_bind (wpAny_isInstance (T := "StopIteration") (b := true) ⟨o, ho, hcl⟩ isSubtype_stop ?_)
    exact wpAny_pure ⟨rfl, I.turned (t' := s.toks) (fun b o hb q => eb b o hb q) f0 f1 f3 f4 f5⟩
  self := fun A i s Q E st h => let ⟨⟨_, he⟩, _⟩ := st; wpAny_pyIter_enum he h
def iEnumT (K : PySem.W.Frag) (ta : TA) : TI := fun σ H R => ta σ H fun vs H1 => ∃ a xs, vs = [.ref a] ∧ SqT K H1 a xs ∧ R (IteT K a) H1
theorem pi_enumT {X : Cx} {e : Expr} {ta : TA} {p pos tpos : Pos} {elts : List Expr} {kk : Nat} (hg : Gl X "enumerate") (hm : X.mg "enumerate" = none) (ha : PA X [e] ta) (hs : starEach [e] X.env = [(false, eval e X.env)] := by rfl) :
    PI X (.Tuple elts kk tpos) (.Call (.Name "enumerate" p) [e] [] pos) (iEnumT X.K ta) := by
  refine ⟨fun pins s σ H R I h => ?_⟩
  refine Call_ (ld_blt I hg hm boot_enumerate (PyProof.Rows.callWith_type1 (thn (ha.run pos pins s σ H _ I h) fun us s1 ⟨vs, H1, I1, r1, q1⟩ => ?_) hs rfl))
  obtain ⟨a, xs, ex, hq, q⟩ := q1
  subst ex
  cases r1 with
  | cons r rr =>
    cases rr
    cases r
    obtain ⟨its, rv, p', hz⟩ := I1.tuple hq
    refine call_enumerate_tuple p' fun h' he hit hsz hk => wpAny_pyIter_enum he ?_
    have I2 : Inv X pins σ H1 { s1 with heap := h' } := I1.kept (t' := s1.toks) hk
    refine ⟨s1.heap.objs.size + 1, [s1.heap.objs.size + 1, s1.heap.objs.size], _, _, H1, rfl, I2, turn_enumT a (s1.heap.objs.size + 1) s1.heap.objs.size, ⟨⟨.none, he⟩, hit, Nat.succ_ne_self _⟩, fun b hb => ?_, q⟩
    have e' : b = s1.heap.objs.size + 1 ∨ b = s1.heap.objs.size := by simpa using hb
    have hle : s1.heap.objs.size ≤ b := by
      rcases e' with z | z
      · rw [z]; exact Nat.le_add_right _ _
      · rw [z]; exact Nat.le_refl _
    exact I1.fpOk hle (I1.hok.fresh hle)
theorem walk_enumT {K : PySem.W.Frag} {a : Addr} {xs : List V} : Walk (IteT K a) xs.length (fun H => SqT K H a xs) (YPair (fun i => some (.int (i : Nat))) (fun i => xs[i]?)) := by
  refine ⟨fun i _ hi q => ⟨xs, xs[i], q, by simp [hi]⟩, fun _ q => ⟨xs, q, Nat.le_refl _⟩, fun i H v H' _ q y => ?_⟩
  obtain ⟨T, x, h1, h2, h3, h4⟩ := y
  exact ⟨T, .int (i : Nat), x, h1, h2, h3, rfl, h4 xs q⟩
end OO

/-! Error classes of a program's own that store what they are made of: made and raised, their field read off where they are caught. -/
namespace OO
open PySem PySem.Spec PyProof.Rows L2 GG
structure ExT (K : PySem.W.Frag) (mg : Str → Option Value) (nm fld : Str) (S fI : Addr) : Prop where
  g : mg nm = some (.ref S)
  o : OexC K S
  no : PySem.W.findIn K (.ref S) fld = some none
  x : XfC K S
  i : PySem.W.findIn K (.ref S) "__init__" = some (some (.ref fI))
  t : PySem.W.typeIn K (.ref fI) = some (.type "function")
  te : PySem.W.exmOne K (.ref S) (.ref S) = some true
def spExI (S : Addr) (fld : Str) : Sp := fun vs H Q _ => ∃ (a : Addr) (v : V), vs = [.ref a, v] ∧ H a = some (exo a S none) ∧ ∀ dx, H dx = none → dx ≠ a → Q .non (upd (upd H dx (exd dx [(fld, v)])) a (exo a S (some dx)))
theorem mko {S : Addr} {fld : Str} {v : V} {H1 : Hp} {Q : XK} (q : ∀ (d : Addr) (H' : Hp), H1 d = none → Same H1 H' → H' d = some (.xd [(fld, v)]) → Q (.ref S) (some d) H') :
    [v].length ≤ 1000 ∧ ∀ a, H1 a = none → spExI S fld (.ref a :: ([v] ++ [])) (upd H1 a (exo a S none))
      (fun v' H2 => v' = .non ∧ ∃ (d : Addr) (fs : List (Str × V)), H2 a = some (exo a S (some d)) ∧ H2 d = some (exd d fs) ∧ H1 d = none ∧ Q (.ref S) (some d) (upd (del H2 a) d (.xd fs))) (fun _ _ _ => False) := by
  refine ⟨by show 1 ≤ 1000; decide, fun a ha => ⟨a, v, rfl, upd_same, fun dx hdx hne => ?_⟩⟩
  have hd : H1 dx = none := by
    rw [upd_ne hne] at hdx
    exact hdx
  refine ⟨rfl, dx, [(fld, v)], upd_same, by rw [upd_ne hne]; exact upd_same, hd, q dx _ hd (fun b o e => ?_) upd_same⟩
  have h1 : b ≠ dx := ne_of_none e hd
  have h2 : b ≠ a := ne_of_none e ha
  rw [upd_ne h1, del_ne h2, upd_ne h2, upd_ne h1, upd_ne h2]
  exact e
/-- what is known of the class, in one fact for each part -/
theorem exT_of {K : PySem.W.Frag} {h : Heap} {mg : Str → Option Value} {nm fld : Str} {S fI : Addr} (X : K.In h) (G : h.Ns mainGlobals mg) {nn q : Str} {N : Addr} {bs bm : List Value} {sn : List Str} {sub : List Value} {ab : Bool} {col : Option Bool} {dd : Option Addr} {k0 k1 k2 k3 k5 : Option Value}
    (a : PySem.W.nsIn K mainGlobals nm = some (some (.ref S))) (l : K.lookup S = some (excClassObj nn q S N bs bm true sn sub ab col dd k0 k1 k2 k3 k5 "ValueError.__new__")) (hb : PySem.HandSPX.refsVE bm = true)
    (sa : PySem.W.findIn K (.ref S) "__setattr__" = some (some (.builtin "object.__setattr__"))) (ex : PySem.W.subIn K (.ref S) (.type "BaseException") = some true) (ty : PySem.W.typeIn K (.ref S) = some (.type "type")) (kp : PySem.W.keepIn K (.ref S) = true)
    (no : PySem.W.findIn K (.ref S) fld = some none) (ga : PySem.W.findIn K (.ref S) "__getattribute__" = some (some (.builtin "BaseException.__getattribute__"))) (gg : PySem.W.findIn K (.ref S) "__getattr__" = some none) (hd : PySem.W.hasDictIn K S = true)
    (i : PySem.W.findIn K (.ref S) "__init__" = some (some (.ref fI))) (t : PySem.W.typeIn K (.ref fI) = some (.type "function")) (ic : PySem.W.isClsIn K S = true) (ss : PySem.W.subIn K (.ref S) (.ref S) = some true) : ExT K mg nm fld S fI where
  g := PySem.W.mg_of X G a
  o := ⟨⟨_, _, _, _, _, _, _, _, _, _, _, _, _, _, _, l, hb⟩, sa, ex, ty, kp⟩
  no := no
  x := ⟨ga, gg, ex, hd⟩
  i := i
  t := t
  te := by
    have e1 : (PySem.W.subIn K (.ref S) (.type "BaseException") == some true) = true := by rw [ex] <;> rfl
    have e2 : ((PySem.W.clsIn K S).isSome && PySem.W.typeIn K (.ref S) == some (.type "type")) = true := by
      have h2' : (PySem.W.clsIn K S).isSome = true := ic
      rw [h2', ty] <;> rfl
    show (if (PySem.W.subIn K (.ref S) (.type "BaseException") == some true) = true then (if ((PySem.W.clsIn K S).isSome && PySem.W.typeIn K (.ref S) == some (.type "type")) = true then PySem.W.subIn K (.ref S) (.ref S) else none) else none) = some true
    rw [if_pos e1, if_pos e2]
    exact ss
/-- at x: an instance of the class at C with such attributes -/
def At (C : Addr) (H : Hp) (x : Addr) (fs : List (Str × V)) : Prop := ∃ dx, H x = some (.ins C dx fs)
theorem At.same {C : Addr} {H H' : Hp} {x : Addr} {fs : List (Str × V)} (h : At C H x fs) (s : Same H H') : At C H' x fs := by
  obtain ⟨dx, h⟩ := h
  exact ⟨dx, s _ _ h⟩
end OO

/-! Defs with a star parameter as they stand in the text. -/
namespace OO
open PySem PySem.Spec PyProof.Rows L2 GG
/-! ### data apart from an object that is changed -/
theorem rd_keep {x : Addr} {H H' : Hp} {C dx : Addr} {fs : List (Str × V)} (k : Keep x H H') (hx : H x = some (.ins C dx fs)) {a : Addr} {o : HO} (ho : ∀ C dx fs, o ≠ .ins C dx fs) (h : Rd H a o) : Rd H' a o := by
  rcases h with h | ⟨u, h⟩
  · refine .inl (k a (fun e => ?_) _ h)
    rw [e, hx] at h
    exact ho _ _ _ (Option.some.inj h).symm
  · refine .inr ⟨u, k a (fun e => ?_) _ h⟩
    rw [e, hx] at h
    cases h
mutual
theorem dp_keep {K : PySem.W.Frag} {x : Addr} {H H' : Hp} {C dx : Addr} {fs : List (Str × V)} (k : Keep x H H') (hx : H x = some (.ins C dx fs)) : ∀ (d : PyData) (v : V), Dp K H v d → Dp K H' v d
  | .none, _, h => by cases h; exact .non
  | .bool b, _, h => by cases h; exact .bl b
  | .int i, _, h => by cases h; exact .int i
  | .str z, _, h => by cases h; exact .str z
  | .list ds, _, h => by
    cases h with
    | lst hs ha => exact .lst (hs.elim (fun z => .inl (rd_keep k hx (fun _ _ _ e => by cases e) z)) .inr) (dpAll_keep k hx ds _ ha)
  | .tuple ds, _, h => by
    cases h with
    | tup hs ha => exact .tup (hs.elim (fun z => .inl (rd_keep k hx (fun _ _ _ e => by cases e) z)) .inr) (dpAll_keep k hx ds _ ha)
  | .dict _, _, h => by cases h
theorem dpAll_keep {K : PySem.W.Frag} {x : Addr} {H H' : Hp} {C dx : Addr} {fs : List (Str × V)} (k : Keep x H H') (hx : H x = some (.ins C dx fs)) : ∀ (ds : List PyData) (vs : List V), DpAll K H vs ds → DpAll K H' vs ds
  | [], _, h => by cases h; exact .nil
  | d :: ds, _, h => by
    cases h with
    | cons h1 h2 => exact .cons (dp_keep k hx d _ h1) (dpAll_keep k hx ds _ h2)
end
theorem val_keep {K : PySem.W.Frag} {x : Addr} {H H' : Hp} {C dx : Addr} {fs : List (Str × V)} {v : V} {d : PyData} (h : Val K H v d) (k : Keep x H H') (hx : H x = some (.ins C dx fs)) : Val K H' v d := by
  rcases h with ⟨h, g⟩ | ⟨rfl, a, kvs, rfl, h⟩
  · exact .inl ⟨dp_keep k hx d v h, g⟩
  · refine .inr ⟨rfl, a, kvs, rfl, k a (fun e => ?_) _ h⟩
    rw [e, hx] at h
    cases h
/-- the promise of a def f(a, .., *v), told of its positional arguments; the tuple of what is left over is known as the object it is -/
def spStar (n : Nat) (sp : Sp) : Sp := fun vs H Q E => ∃ ws rest, vs = ws ++ rest ∧ ws.length = n ∧ rest.length ≤ sizeLine ∧ ∀ (p : Addr) (ob : Obj), H p = none → ob.cls = .type "tuple" → ob.dict = none → sp (ws ++ [V.ref p]) (upd H p (.frz ob (.tup rest))) Q E
section
variable {P : Program} {w : World} {K : PySem.W.Frag} {mg : Str → Option Value} {base : Heap}
/-- a def whose arguments beyond the first ones go into a tuple, by the facts of its record -/
theorem star_raw {CX : CXT} {k : Nat} {f : Addr} {nm ql : Str} {pa : Arguments} {bd : List Stmt} {sc : Scope} {v1 v2 v3 v4 v5 v6 v7 : Value} {o1 o2 : Option Addr} {sl : Array (Option Value)} {N qs : List Str} {sp : Sp} {pv : Str}
    (hl : K.lookup f = some ⟨v7, o2, .func (PySem.W.fnOf nm ql pa bd sc v1 v2 v3 v4 o1 v5 v6), sl⟩) (hc : PySem.W.codeIn K v5 ql = true) (S : FnScope N (qs ++ [pv]) sc) (up : StX.CXUp CX)
    (hb : ∀ fst rst : List Value, fst.length = qs.length → bindArgs (PySem.W.fnOf nm ql pa bd sc v1 v2 v3 v4 o1 v5 v6) ⟨fst ++ rst, []⟩ = (newTuple rst >>= fun t => pure (qs.zip fst ++ [(pv, t)])))
    (body : ∀ (A : Around) (outer : List Env) (s : Shared) (H : Hp) (vs : List V) (Q : VK) (E : XK), Room k (A.deeper (envOfC ql sc s.heap.objs.size f v5)) → sp vs H Q E →
      ∃ t, PSs (cxOf CX P w K mg base N ql sc f v5 A outer s H E) bd t ∧ t { nx := fun _ H' => Q .non H', rt := Q } (start N vs) H) :
    FnR P w K mg base CX (k + 1) f (spStar qs.length sp) := by
  rintro A outer s H all _ Q E room e0 rel ⟨ws, rst, rfl, len, fits, want⟩
  obtain ⟨fst, snd, rfl, rel1, rel2⟩ := StX.vals_split rel
  have lfst : fst.length = qs.length := rel1.length.symm.trans len
  have fits2 : snd.length ≤ sizeLine := rel2.length ▸ fits
  have nw : H s.heap.objs.size = none := e0.hok.fresh (Nat.le_refl _)
  refine StX.run_bnd hl hc S room e0 (G := fun xs Hx => ∃ (p : Addr) (ob : Obj), H p = none ∧ ob.cls = .type "tuple" ∧ ob.dict = none ∧ xs = ws ++ [V.ref p] ∧ Hx = upd H p (.frz ob (.tup rst))) ?_ ?_
  · intro A' Ex Q' good
    rw [hb fst snd lfst]
    refine wpAny_bind (wpAny_newTuple (wpAny_pure ?_) fits2)
    have at_ : (s.heap.push ({ cls := .type "tuple", data := .seq snd.toArray } : Obj)).get? s.heap.objs.size = some ({ cls := .type "tuple", data := .seq snd.toArray } : Obj) := Heap.get?_push_size _ rfl
    have un := StX.un_laid (fs := frs outer) (s := s) (o := ({ cls := .type "tuple", data := .seq snd.toArray } : Obj)) (u := .frz ({ cls := .type "tuple", data := .seq snd.toArray } : Obj) (.tup rst)) nw
    have fine := good _ _ (ws ++ [V.ref s.heap.objs.size]) (fst ++ [Value.ref s.heap.objs.size]) (StX.env0_laid (u := .frz ({ cls := .type "tuple", data := .seq snd.toArray } : Obj) (.tup rst)) e0 ⟨at_, fits, snd, rel2, ⟨_, at_, rfl, _, rfl⟩⟩) un rfl
      (fun e s' => up outer s H _ _ E e s' un (fun _ _ z => Heap.get?_push_of_some _ z) rfl) (rel1.append (.cons rfl .nil)) (by simp only [List.length_append, List.length_singleton, len]) ⟨_, _, nw, rfl, rfl, rfl, rfl⟩
    rwa [List.zip_append lfst.symm] at fine
  · rintro s2 _ _ ⟨p, ob, np, hcl, hd, rfl, rfl⟩ room'
    exact body A outer s2 _ _ Q E room' (want p ob np hcl hd)
theorem Fun.star1 {CX : CXT} {x ql : Str} {st : Stmt} {f : Addr} {fd : FuncData} {N : List Str} {p1 pv : Str} {k : Nat} {sp : Sp} (F : Fun K x ql st f fd) (S : FnScope N [p1, pv] (defScope st)) (up : StX.CXUp CX)
    (h0 : ∀ (b c d : Value) (e : Option Addr) (g h u : Value), bindArgs (PySem.W.fnOf x ql (defArgs st) (defBody st) (defScope st) .none b c d e g h) ⟨[u], []⟩ = (newTuple [] >>= fun t => pure [(p1, u), (pv, t)]))
    (h1 : ∀ (b c d : Value) (e : Option Addr) (g h u r : Value) (rs : List Value), bindArgs (PySem.W.fnOf x ql (defArgs st) (defBody st) (defScope st) .none b c d e g h) ⟨u :: r :: rs, []⟩ = (newTuple (r :: rs) >>= fun t => pure [(p1, u), (pv, t)]))
    (body : ∀ (cd : Value) (A : Around) (outer : List Env) (s : Shared) (H : Hp) (vs : List V) (Q : VK) (E : XK), Room k (A.deeper (envOfC ql (defScope st) s.heap.objs.size f cd)) → sp vs H Q E →
      ∃ t, PSs (cxOf CX P w K mg base N ql (defScope st) f cd A outer s H E) (defBody st) t ∧ t { nx := fun _ H' => Q .non H', rt := Q } (start N vs) H) :
    FnR P w K mg base CX (k + 1) f (spStar 1 sp) := by
  obtain ⟨oc, od, b, c, d, e, g, h, osl, rfl, lk, hcd⟩ := F.ex
  exact star_raw (qs := [p1]) lk hcd S up (StX.bind_star1 (B := fun us => bindArgs (PySem.W.fnOf x ql (defArgs st) (defBody st) (defScope st) .none b c d e g h) ⟨us, []⟩) (h0 b c d e g h) (h1 b c d e g h)) (body g)
theorem Fun.star2 {CX : CXT} {x ql : Str} {st : Stmt} {f : Addr} {fd : FuncData} {N : List Str} {p1 p2 pv : Str} {k : Nat} {sp : Sp} (F : Fun K x ql st f fd) (S : FnScope N [p1, p2, pv] (defScope st)) (up : StX.CXUp CX)
    (h0 : ∀ (b c d : Value) (e : Option Addr) (g h u v : Value), bindArgs (PySem.W.fnOf x ql (defArgs st) (defBody st) (defScope st) .none b c d e g h) ⟨[u, v], []⟩ = (newTuple [] >>= fun t => pure [(p1, u), (p2, v), (pv, t)]))
    (h1 : ∀ (b c d : Value) (e : Option Addr) (g h u v r : Value) (rs : List Value), bindArgs (PySem.W.fnOf x ql (defArgs st) (defBody st) (defScope st) .none b c d e g h) ⟨u :: v :: r :: rs, []⟩ = (newTuple (r :: rs) >>= fun t => pure [(p1, u), (p2, v), (pv, t)]))
    (body : ∀ (cd : Value) (A : Around) (outer : List Env) (s : Shared) (H : Hp) (vs : List V) (Q : VK) (E : XK), Room k (A.deeper (envOfC ql (defScope st) s.heap.objs.size f cd)) → sp vs H Q E →
      ∃ t, PSs (cxOf CX P w K mg base N ql (defScope st) f cd A outer s H E) (defBody st) t ∧ t { nx := fun _ H' => Q .non H', rt := Q } (start N vs) H) :
    FnR P w K mg base CX (k + 1) f (spStar 2 sp) := by
  obtain ⟨oc, od, b, c, d, e, g, h, osl, rfl, lk, hcd⟩ := F.ex
  exact star_raw (qs := [p1, p2]) lk hcd S up (StX.bind_star2 (B := fun us => bindArgs (PySem.W.fnOf x ql (defArgs st) (defBody st) (defScope st) .none b c d e g h) ⟨us, []⟩) (h0 b c d e g h) (h1 b c d e g h)) (body g)
/-- t.m(e), t a tuple that is known as the object it is -/
def tTupM (r : V → List V → Hp → VK → Prop) (to : TE) (t : TA) : TE := fun σ H Q => to σ H fun x H1 => ∃ (p : Addr) (ob : Obj) (ys : List V), x = .ref p ∧ H1 p = some (.frz ob (.tup ys)) ∧ ob.cls = .type "tuple" ∧ ob.dict = none ∧ t σ H1 fun vs H2 => r x vs H2 Q
theorem pe_tupM {X : Cx} {nm : Str} {id : String} {r : V → List V → Hp → VK → Prop} {o e : Expr} {es : List Expr} {to : TE} {t : TA} {ap cp : Pos} (slot : Slot "tuple" nm id) (ty : typeOf (.builtin id) = pure (.type "method_descriptor")) (hm : MtR X id r) (ho : PE X o to) (ha : PA X (e :: es) t)
    (h1 : attributeBase o nm X.env (eval o X.env) = eval o X.env := by rfl)
    (h2 : ((backTo cp (starEach (e :: es) X.env)).all (fun x => !x.1) && (backToKw cp (keywordEach [] X.env)).all (fun x => x.1.isSome) && decide ((e :: es).length + ([] : List Keyword).length + (if ([] : List Keyword).isEmpty then 0 else 1) < 30)) = true := by rfl)
    (h3 : (ap.endLine == cp.line) = true := by rfl) (h4 : starEach (e :: es) X.env = (false, eval e X.env) :: starEach es X.env := by rfl) (h5 : (backTo cp (starEach es X.env)).any (·.1) = false := by rfl) :
    PE X (.Call (.Attribute o nm ap) (e :: es) [] cp) (tTupM r to t) := by
  refine ⟨fun pins s σ H Q I h => wpAny_Call_method_late h1 h2 h3 rfl (thn (ho.run pins s σ H _ I h) ?_)⟩
  rintro v s1 ⟨x, H1, I1, rx, p, ob, ys, rfl, hp, hcl, hd, q⟩
  cases (show v = Value.ref p from rx)
  obtain ⟨hg, _⟩ := (show ObjOk X.prog X.w H1 s1.heap p (.frz ob (.tup ys)) from I1.hok p _ hp)
  refine ⟨"tuple", id, PySem.F.plainAttrs_tuple, slot, ty, ⟨ob, hg, hcl⟩, fun a ea => ?_, ?_⟩
  · cases ea
    exact ⟨ob, hg, hd⟩
  have z := ha.run cp pins s1 σ H1 _ I1 q
  rw [h4] at z ⊢
  refine Calls.callWith_builtin (by show (false || (backTo cp (starEach es X.env)).any (·.1)) = false; rw [h5]; rfl) (Calls.evalArgs_plain (thn z ?_))
  rintro us s2 ⟨vs, H2, I2, rv, q2⟩
  exact hm pins s2 σ H2 (.ref p) vs (.ref p) us Q I2 rfl rv q2
/-- what is raised in a callee passes out of the def -/
theorem passX {X : Cx} {E : XK} (tk : Takes X (fun cls d _ H => E cls d H)) : Passes (L2.CX X.prog X.w) X E := passes_call tk fun _ _ _ _ h => h
end
end OO

/-! Promises of defs that are called where no object is being written out (A.guards = some []): so repr of containers may be asked. -/
namespace OO
open PySem PySem.Spec PyProof.Rows L2 TL GG
/-- as FnOk, where nothing is being written out -/
structure FnG (P : Program) (w : World) (K : PySem.W.Frag) (mg : Str → Option Value) (base : Heap) (CX : CXT) (k : Nat) (f : Addr) (fd : FuncData) (ps : List Str) (sp : Sp) : Prop where
  num : ∀ xs G R Y, sp xs G R Y → xs.length = ps.length
  go : ∀ (B : Around) (out : List Env) (st : Shared) (G : Hp) (as : Args) (ws : List Value) (xs : List V) (R : VK) (Y : XK), Room k B → B.guards = some [] → Env0 P w K mg base B out st G → BindsTo st fd as (ps.zip ws) → Vals xs ws →
    sp xs G R Y → codeAny (model P w) B (.call (.ref f) as) (CR CX out P w G st R Y) st
theorem FnOk.toG {P : Program} {w : World} {K : PySem.W.Frag} {mg : Str → Option Value} {base : Heap} {CX : CXT} {k : Nat} {f : Addr} {fd : FuncData} {ps : List Str} {sp : Sp} (F : FnOk P w K mg base CX k f fd ps sp) : FnG P w K mg base CX k f fd ps sp :=
  ⟨F.len, fun B out st G as ws xs R Y hr _ => F.run B out st G as ws xs R Y hr⟩
section
variable {P : Program} {w : World} {K : PySem.W.Frag} {mg : Str → Option Value} {base : Heap}
/-- the rule for a def, told of its body with the guards known -/
theorem Fun.okG {x qual : Str} {st : Stmt} {f : Addr} {fd : FuncData} {N ps : List Str} {k : Nat} {sp : Sp} (F : Fun K x qual st f fd) (S : FnScope N ps (defScope st)) (len : ∀ vs H Q E, sp vs H Q E → vs.length = ps.length)
    (body : ∀ (cdv : Value) (A : Around) (outer : List Env) (s : Shared) (H : Hp) (vs : List V) (Q : VK) (E : XK), Room k (A.deeper (envOfC qual (defScope st) s.heap.objs.size f cdv)) → A.guards = some [] → sp vs H Q E →
      ∃ t, PSs (cxOf CX0 P w K mg base N qual (defScope st) f cdv A outer s H E).nox (defBody st) t ∧ t { nx := fun _ H' => Q .non H', rt := Q } (start N vs) H) : FnG P w K mg base CX0 (k + 1) f fd ps sp := by
  obtain ⟨oc, od, kV, doc, pm, an, cdv, ct, osl, rfl, rec_, hcode⟩ := F.ex
  refine ⟨len, fun B out st1 G as ws xs R Y hr gd en bnd rel wish => ?_⟩
  have nn := len _ _ _ _ wish
  have inK : K.In st1.heap := en.mod.kin.keeps fun b o z => (en.bs b o z).1
  have room : st1.heap.NoLimit := en.mod.nolimit.keeps fun b o z => (en.bs b o z).1
  refine codeAny_call_function hr.depth (inK _ _ rec_) rfl S.co S.gen rfl (PySem.W.codeRec_of inK hcode) (bnd _ _ _ _ ?_)
  refine wpAny_newFunctionEnv_cells S.kind (fun ⟨n, v⟩ hy => (S.par n (List.of_mem_zip hy).1).imp id fun q => ⟨q, PySem.W.cellsFrom_some _ _ _ (.inl q)⟩) fun env henv st2 inside => ?_
  subst henv
  refine ⟨room.keeps inside.toInCall.keep, codeAny_func ?_⟩
  obtain ⟨t, runs, asked⟩ := body cdv B out st1 G xs R Y (hr.deeper _) gd wish
  have J0 : Inv (cxOf CX0 P w K mg base N qual (defScope st) f cdv B out st1 G Y) [] (start N xs) G st2 := inv_start S hr.hd en nn rel inside
  refine wpAny_mono (runs.nox.run [] st2 (start N xs) G _ J0 asked) (fun way st3 told => ?_) fun _ _ z => z
  cases way with
  | brk =>
    obtain ⟨_, _, _, no⟩ := told
    exact no.elim
  | cont =>
    obtain ⟨_, _, _, no⟩ := told
    exact no.elim
  | next =>
    obtain ⟨σ2, G2, J, z⟩ := told
    exact ⟨V.non, G2, J.os, J.bare, J.base, J.hok, rfl, z⟩
  | ret u =>
    obtain ⟨v, σ2, G2, J, ru, z⟩ := told
    exact ⟨v, G2, J.os, J.bare, J.base, J.hok, ru, z⟩
end
section
variable {X : Cx} {CX : CXT} {k : Nat} {f : Addr} {fd : FuncData} {ps : List Str} {sp : Sp} {x : Str} {p pos : Pos} {e : Expr} {es : List Expr} {t : TA}
theorem run_fnG {pins : List (Addr × Obj)} {σ : L2.St} {H : Hp} {s : Shared} {Q : VK} {us : List Value} {vs : List V} {E : XK} (F : FnG X.prog X.w X.K X.mg X.base CX k f fd ps sp) (gd : X.A.guards = some []) (hr : Room k X.A) (hb : Binds X.K fd ps []) (hx : Passes CX X E)
    (I : Inv X pins σ H s) (r : Vals vs us) (h : sp vs H Q E) : wpAny (model X.prog X.w) X.A (call (.ref f) us) (EP X pins σ Q) X.xe s := by
  have num : (us ++ []).length = ps.length := by rw [List.append_nil, ← r.length]; exact F.num _ _ _ _ h
  refine wpAny_call (codeAny_mono (F.go X.A X.stack s H ⟨us, []⟩ (us ++ []) vs Q E hr gd I.env0 (hb s us I.kIn num) (by rw [List.append_nil]; exact r) h) fun way s' told => ?_)
  rcases way with er | fl
  · exact hx pins σ H s er s' I told
  · cases fl <;> first | exact I.after told | exact told.elim
theorem pe_callG {E : XK} (F : FnG X.prog X.w X.K X.mg X.base CX k f fd ps sp) (gd : X.A.guards = some []) (hr : Room k X.A) (hg : Gl X x) (hm : X.mg x = some (.ref f)) (hk : PySem.W.keepIn X.K (.ref f) = true) (hb : Binds X.K fd ps []) (hx : Passes CX X E)
    (ha : PA X (e :: es) t) (hdb : (x == ("__debug__" : Str)) = false := by decide) (he : starEach (e :: es) X.env = (false, eval e X.env) :: starEach es X.env := by rfl) (hpl : (backTo pos (starEach es X.env)).any (·.1) = false := by rfl) :
    PE X (.Call (.Name x p) (e :: es) [] pos) ((fun σ H Q => t σ H fun vs H1 => sp vs H1 Q E)) := by
  refine ⟨fun pins s σ H Q I h => ?_⟩
  refine wpAny_Call_Name_kw (ld_glob I hg hm ?_ hdb)
  exact PySem.W.callWith_K (h₀ := X.base) I.ok.mod.kin hk (thn (ha.run pos pins s σ H _ I h) fun us s1 ⟨vs, H1, I1, r, q⟩ => ⟨I1.kIn, run_fnG F gd hr hb hx I1 r q⟩) he hpl
/-- repr of data, of an empty dict -/
def rReprD (K : PySem.W.Frag) (xs : List V) (H : Hp) (Q : VK) : Prop := (∃ v d, xs = [v] ∧ Dp K H v d ∧ d.showable = true ∧ d.shown.length ≤ sizeLine ∧ d.depth ≤ 60 ∧ Q (.str d.shown) H) ∨ ∃ a, xs = [.ref a] ∧ H a = some (.dK []) ∧ Q (.str "{}") H
end
end OO

namespace OO
open PySem PySem.Spec PyProof.Rows L2 TL GG
/-- a list, known as the object it is: the law's script -/
def SqE (K : PySem.W.Frag) (H : Hp) (a : Addr) (xs : List V) : Prop := (∃ ob, H a = some (.frz ob (.lst xs))) ∨ ∃ (vs : List Value) (n : Nat), K.lookup a = some { cls := .type "list", data := .seq vs.toArray n } ∧ Vals xs vs ∧ xs.length ≤ sizeLine
/-- script + [..] -/
def rCatE (K : PySem.W.Frag) : R2 := fun x y H Q => ∃ (l b : Addr) (xs zs : List V), x = .ref l ∧ y = .ref b ∧ SqE K H l xs ∧ H b = some (.lst zs) ∧ xs.length + zs.length ≤ sizeLine ∧ ∀ p, H p = none → Q (.ref p) (upd H p (.lst (xs ++ zs)))
theorem op_catE {X : Cx} : OpR X (binaryOp .Add) (rCatE X.K) := by
  intro pins s σ H x y v u Q I rx ry h
  obtain ⟨l, b, xs, zs, rfl, rfl, hE, hB, hz, q⟩ := h
  cases rx
  cases ry
  obtain ⟨its, n, r, e⟩ : ∃ (its : List Value) (n : Nat), Vals xs its ∧ s.heap.get? l = some { cls := .type "list", data := .seq its.toArray n } := by
    rcases hE with ⟨ob, hf⟩ | ⟨vs, n, hk, rv, _⟩
    · obtain ⟨_, _, its, n, rv, here⟩ := (show ObjOk X.prog X.w H s.heap l (.frz ob (.lst xs)) from I.hok l _ hf)
      exact ⟨its, n, rv, here⟩
    · exact ⟨vs, n, rv, I.kIn _ _ hk⟩
  obtain ⟨z2, its2, n2, r2, hl2, e2⟩ := I.lstM hB
  refine PySem.P.add_list e e2 ?_ (by rw [List.size_toArray, List.size_toArray, ← r.length, ← r2.length]; exact hz)
  have both : its.toArray ++ its2.toArray = (its ++ its2).toArray := by simp
  rw [both]
  exact ⟨.ref _, _, I.lnew (t' := s.toks) (r.append r2) (by rw [List.length_append]; exact hz), rfl, q _ I.fresh⟩
/-- what is tracked ahead of the law: its script, where the written part doesn't hold it -/
def H1st (K : PySem.W.Frag) (a : Addr) (vs : List Value) (ns : List Int) : Hp := fun b => if b = a ∧ K.lookup a = none then some (.frz { cls := .type "list", data := .seq vs.toArray } (.lst (ns.map V.int))) else none
theorem h1st_cases (K : PySem.W.Frag) (a : Addr) (vs : List Value) (ns : List Int) (b : Addr) : H1st K a vs ns b = none ∨ (b = a ∧ K.lookup a = none ∧ H1st K a vs ns b = some (.frz { cls := .type "list", data := .seq vs.toArray } (.lst (ns.map V.int)))) := by
  unfold H1st
  by_cases h : b = a ∧ K.lookup a = none
  · exact .inr ⟨h.1, h.2, if_pos h⟩
  · exact .inl (if_neg h)
theorem law_goG {P : Program} {w : World} {K : PySem.W.Frag} {mg mb : Str → Option Value} {k : Nat} {fa a : Addr} {fd : FuncData} {x : Str} {sp : Sp} {st : Shared} {vs : List Value} {ns : List Int}
    (inK : K.In st.heap) (top : st.heap.Ns mainGlobals mg) (blt : st.heap.Ns builtinsNs mb) (boot : ∀ x : Str, x ≠ "__name__" → mb x = bootBuiltins x) (room : st.heap.NoLimit) (quiet : st.gens = #[])
    (here : st.heap.get? a = some { cls := .type "list", data := .seq vs.toArray }) (are : IntsAre vs ns) (len : ns.length ≤ sizeLine) (hr : Room k callerA)
    (F : ∀ base : Heap, K.In base → base.Ns mainGlobals mg → FnG P w K mg base CX0 k fa fd [x] sp) (bnd : ∀ (s : Shared) (u : Value), BindsTo s fd ⟨[u], []⟩ [(x, u)])
    (wish : ∀ H : Hp, SqL K H a (ns.map V.int) → SqE K H a (ns.map V.int) → sp [.ref a] H (fun v _ => v = .bl true) fun _ _ _ => False) :
    codeAny (model P w) callerA (.call (.ref fa) ⟨[.ref a], []⟩) (fun r s' => r = .ok (.ret (.bool true)) ∧ OldK st.heap s'.heap ∧ s'.os = st.os ∧ AllBare s'.gens) st := by
  have rel := vals_ints are
  have size := are.length
  have hS : SqL K (H1st K a vs ns) a (ns.map V.int) := by
    cases q : K.lookup a with
    | none => exact .inl (.inr ⟨{ cls := .type "list", data := .seq vs.toArray }, if_pos ⟨rfl, q⟩⟩)
    | some o =>
      have z := inK a o q
      rw [here] at z
      cases z
      exact .inr ⟨_, vs.toArray, _, q, rfl, rfl, rfl, by rw [List.size_toArray, size]; exact len, by simpa using rel⟩
  have hE : SqE K (H1st K a vs ns) a (ns.map V.int) := by
    cases q : K.lookup a with
    | none => exact .inl ⟨{ cls := .type "list", data := .seq vs.toArray }, if_pos ⟨rfl, q⟩⟩
    | some o =>
      have z := inK a o q
      rw [here] at z
      cases z
      exact .inr ⟨vs, _, q, rel, by rw [List.length_map]; exact len⟩
  have hok : HOk P w (H1st K a vs ns) st.heap := fun b u z => by
    rcases h1st_cases K a vs ns b with n | ⟨rfl, _, y⟩
    · rw [n] at z
      cases z
    · rw [y] at z
      cases z
      exact ⟨here, by rw [List.length_map]; exact len, vs, _, rel, here⟩
  have nsT : ∀ {b : Addr} {m : Str → Option Value}, st.heap.Ns b m → (hidT st.heap (H1st K a vs ns)).Ns b m := fun {b m} ⟨o, es, ep, e, d, r⟩ => ⟨o, es, ep, hidT_get e (by
    rcases h1st_cases K a vs ns b with n | ⟨rfl, _, _⟩
    · exact n
    · rw [here] at e
      cases e
      exact nomatch (show Data.seq vs.toArray _ = Data.dict es ep from d)), d, r⟩
  have inT : K.In (hidT st.heap (H1st K a vs ns)) := fun b o e => hidT_get (inK b o e) (by
    rcases h1st_cases K a vs ns b with n | ⟨rfl, n, _⟩
    · exact n
    · rw [n] at e
      cases e)
  have md : Mod K mg (hidT st.heap (H1st K a vs ns)) := ⟨inT, nsT top, ⟨mb, nsT blt, boot⟩, let ⟨mc, h1, h2⟩ := room; ⟨mc, nsT h1, h2⟩⟩
  have en : Env0 P w K mg (hidT st.heap (H1st K a vs ns)) callerA [] st (H1st K a vs ns) := ⟨rfl, md, fun b o e => of_hidT e, Nat.le_of_eq (hidT_size _ _), trivial, fun b hb => absurd (show b ∈ ([] : List Addr) from hb) (by simp), hok, AllBare.of_eq quiet⟩
  refine codeAny_mono ((F _ inT (nsT top)).go callerA [] st _ ⟨[.ref a], []⟩ [.ref a] [.ref a] _ _ hr rfl en (bnd st (.ref a)) (.cons rfl .nil) (wish _ hS hE)) fun way s' told => ?_
  rcases way with er | fl
  · exact told.elim
  · cases fl with
    | next => exact told.elim
    | brk => exact told.elim
    | cont => exact told.elim
    | ret u =>
      obtain ⟨v, H', os, bare, un, hok', rv, ev⟩ := told
      cases ev
      cases (show u = Value.bool true from rv)
      refine ⟨rfl, OldK.of_keep fun b o e => ?_, os, bare⟩
      rcases h1st_cases K a vs ns b with n | ⟨rfl, _, y⟩
      · exact un.keep b o e n (fun z => nomatch z) (by simp)
      · have z1 := (hok b _ y).1
        rw [e] at z1
        cases z1
        exact (hok' b _ (un.frzs b _ _ y)).1
theorem walk_G {l : PySem.W.OpenLaw} {n k : Nat} {q : Program} {loose : List Str} {XP : (Str → Option Value) → Heap → Prop} {YP : World → Heap → Prop} {d : DefRec} {K : Params → PySem.W.Frag} {sp : World → Sp} {x : Str}
    (hn : l.most = some n) (hn2 : n ≤ sizeLine) (hdf : d.params.defaults = []) (hr : Room k callerA) (hY : ∀ (w : World) (h : Heap), YP w h → (K w.params).In h)
    (F : ∀ (w : World) (mg : Str → Option Value) (fa : Addr) (h : Heap), (K w.params).In h → h.Ns mainGlobals mg → mg d.name = some (.ref fa) →
      ∃ fd : FuncData, (∀ (s : Shared) (u : Value), BindsTo s fd ⟨[u], []⟩ [(x, u)]) ∧ ∀ base : Heap, (K w.params).In base → base.Ns mainGlobals mg → FnG l.prog w (K w.params) mg base CX0 k fa fd [x] (sp w))
    (wish : ∀ (w : World) (H : Hp) (a : Addr) (ns : List Int), ns.length ≤ n → SqL (K w.params) H a (ns.map V.int) → SqE (K w.params) H a (ns.map V.int) → sp w [.ref a] H (fun v _ => v = .bl true) fun _ _ _ => False) :
    PySem.W.WalkO q loose XP YP l.row.toRowW d [] (fun f vs => PySem.call f vs) := by
  refine Att.attach_call hn hdf fun w s₀ st mg mb fa o pm cd doc a vs ns G Y ho hd hcd hmg hobj hints hlen hg => ?_
  obtain ⟨fd, hb, hF⟩ := F w mg fa _ (hY w _ Y) G.T.g hmg
  exact law_goG (hY w _ Y) G.T.g G.T.b G.T.builtins G.T.nolimit hg hobj hints (Nat.le_trans hlen hn2) hr hF hb fun H hS hE => wish w H a ns hlen hS hE
section
variable {X : Cx}
mutual
theorem dp_noDict {K : PySem.W.Frag} {H : Hp} : ∀ (d : PyData) (v : V), Dp K H v d → d.hasDict = false
  | .none, _, _ => by simp only [PyData.hasDict]
  | .bool _, _, _ => by simp only [PyData.hasDict]
  | .int _, _, _ => by simp only [PyData.hasDict]
  | .str _, _, _ => by simp only [PyData.hasDict]
  | .list ds, _, h => by
    cases h with
    | lst _ ha =>
      simp only [PyData.hasDict]
      exact dpAll_noDict ds _ ha
  | .tuple ds, _, h => by
    cases h with
    | tup _ ha =>
      simp only [PyData.hasDict]
      exact dpAll_noDict ds _ ha
  | .dict _, _, h => by cases h
theorem dpAll_noDict {K : PySem.W.Frag} {H : Hp} : ∀ (ds : List PyData) (vs : List V), DpAll K H vs ds → PyData.hasDictAll ds = false
  | [], _, _ => by simp only [PyData.hasDictAll]
  | d :: ds, _, h => by
    cases h with
    | cons h1 h2 => simp only [PyData.hasDictAll, dp_noDict d _ h1, dpAll_noDict ds _ h2, Bool.or_self]
end
/-- repr(x) of data -/
theorem call_reprD (gd : X.A.guards = some []) (hu : X.A.units + 65 < cLine) : CallR X (.builtin "repr") (rReprD X.K) := by
  intro pins s σ H xs us Q I r h
  rcases h with ⟨v, d, rfl, hd, hs, hz, hdp, q⟩ | ⟨a, rfl, hk, q⟩
  · obtain ⟨u, rfl, ru⟩ := vals1 r
    cases hd with
    | non =>
      cases (show u = Value.none from ru)
      exact PySem.P.repr_of_none ⟨.str _, H, I.tok _, ⟨_, rfl⟩, q⟩
    | bl b =>
      cases (show u = Value.bool b from ru)
      refine PySem.P.repr_of_bool ⟨.str _, H, I.tok _, ⟨_, rfl⟩, ?_⟩
      cases b <;> exact q
    | int i =>
      obtain ⟨t, rfl⟩ := ru
      have hi : i.natAbs.log2 < 1920 := by simpa [PyData.showable] using hs
      exact PySem.P.repr_of_int hi ⟨.str _, H, I.tok _, ⟨_, rfl⟩, q⟩
    | str y =>
      obtain ⟨t, rfl⟩ := ru
      exact PySem.P.repr_of_str ⟨.str _, H, I.tok _, ⟨_, rfl⟩, q⟩ hz
    | lst hl ha =>
      cases (show u = Value.ref _ from ru)
      obtain ⟨as, rd⟩ := Dp.reads I _ _ _ (.lst hl ha) rfl
      exact PySem.repr_of_reads' rd hs (PyData.noDict_hsm (dp_noDict _ _ (.lst hl ha))) gd (by omega) (fun _ _ z => z) (fun h' u tk hk => ⟨.str _, H, I.kept (t' := tk) hk, ⟨_, rfl⟩, q⟩) hz
    | tup hl ha =>
      cases (show u = Value.ref _ from ru)
      obtain ⟨as, rd⟩ := Dp.reads I _ _ _ (.tup hl ha) rfl
      exact PySem.repr_of_reads' rd hs (PyData.noDict_hsm (dp_noDict _ _ (.tup hl ha))) gd (by omega) (fun _ _ z => z) (fun h' u tk hk => ⟨.str _, H, I.kept (t' := tk) hk, ⟨_, rfl⟩, q⟩) hz
  · obtain ⟨u, rfl, ru⟩ := vals1 r
    cases (show u = Value.ref a from ru)
    obtain ⟨_, hne, vs, kv, o, es, ep, ho, ex, hd, _, pr, _⟩ := dk_of I.hok hk
    cases kv
    have he : es.toList = [] := by cases hes : es.toList with
      | nil => rfl
      | cons _ _ =>
        rw [hes] at pr
        cases pr
    have rd : Reads s.heap (.ref a) (.dict []) [a] := Reads.dict (as := []) (bs := []) (kvs := []) ho ex.1 hd (by rw [he]; exact .nil) (by rw [he]; exact .nil)
    exact PySem.repr_of_reads' rd rfl (fun _ hm => by
      rcases List.mem_cons.mp hm with e | e
      · rw [← e] at hne
        exact absurd (beq_self_eq_true _) (by rw [hne]; exact Bool.false_ne_true)
      · exact nomatch e) gd (by show X.A.units + (PyData.depth (.dict []) + 1) < cLine; have : PyData.depth (.dict []) ≤ 2 := (by decide +kernel); omega) (fun _ _ z => z) (fun h' u tk hk => ⟨.str _, H, I.kept (t' := tk) hk, ⟨_, rfl⟩, q⟩) (by decide +kernel)
end
end OO

/-! Own exception classes called by keywords: BaseException.__new__ takes them, the own __init__ gets them. -/
namespace PySem
namespace HandSPX
open Builtin Builtin.ObjectAttr
section
variable {M : Model} {A : Around} {E : Value → Shared → Prop} {h : Heap} {g : Array GenState} {d : Drawn} {t : Nat} {os : OsState}
variable {nm q : Str} {C N : Addr} {bs bm bmB : List Value} {hdct : Bool} {sn : List Str} {sub : List Value} {ab : Bool} {col : Option Bool} {dd : Option Addr} {k0 k1 k2 k3 k5 : Option Value} {B newId initId : String}
theorem check_newK (F : ExcBaseFacts B newId initId bmB) (same : ∀ X : String, bm.contains (.type X) = bmB.contains (.type X)) {kw : List (Str × Value)} {Q : Unit → Shared → Prop}
    (cls : h.get? C = some (excClassObj nm q C N bs bm hdct sn sub ab col dd k0 k1 k2 k3 k5 newId)) (z : Q () ⟨h, g, d, t, os⟩) : wpAny M A (checkBuiltinCall newId ⟨[.ref C], kw⟩) Q E ⟨h, g, d, t, os⟩ := by
  have under : (Value.ref C :: bm).contains (.type B) = true := by rw [List.contains_cons, same, F.hasB, Bool.or_true]
  have ns := F.noStar
  simp only [checkBuiltinCall, F.newKind, F.newSplit, F.newRow]
  repeat (first | refine wpAny_loadPart_at cls ?_ | (refine wpAny_isSubtype_exc cls ?_; rw [under]) | refine wpAny_staticBase_exc cls ?_ | refine wpAny_madeBy_exc cls ?_ | simp only [bne_self_eq_false, Bool.false_eq_true, if_false] | wp_step)
  exact z
end
section
variable {prog : Program} {w : World} {A : Around} {E : Value → Shared → Prop} {R : Result → Shared → Prop} {h : Heap} {g : Array GenState} {d : Drawn} {t : Nat} {os : OsState}
variable {nm q : Str} {C N : Addr} {bs bm bmB : List Value} {hdct : Bool} {sn : List Str} {sub : List Value} {ab : Bool} {col : Option Bool} {dd : Option Addr} {k0 k1 k2 k3 k5 : Option Value} {B newId initId : String}
theorem newK (F : ExcBaseFacts B newId initId bmB) (same : ∀ X : String, bm.contains (.type X) = bmB.contains (.type X)) {kw : List (Str × Value)}
    (cls : h.get? C = some (excClassObj nm q C N bs bm hdct sn sub ab col dd k0 k1 k2 k3 k5 newId))
    (z : R (.ok (.ret (.ref (h.objs.size + 1)))) ⟨(h.push (W.kdv_tup [])).push (excO C h.objs.size), g, d, t, os⟩) : codeAny (model prog w) A (.builtin newId ⟨[.ref C], kw⟩) R ⟨h, g, d, t, os⟩ := by
  have fin_ := F.ends
  have inB : (Value.ref C :: bm).contains (.type B) = true := by rw [List.contains_cons, same, F.hasB, Bool.or_true]
  have notA : (Value.ref C :: bm).contains (.type "AttributeError") = false := by rw [List.contains_cons, same, F.noAttr]; rfl
  have notN : (Value.ref C :: bm).contains (.type "NameError") = false := by rw [List.contains_cons, same, F.noName]; rfl
  have size0 : ([] : List Value).length ≤ sizeLine := Nat.zero_le _
  refine codeAny_builtinAt F.entry ?_
  unfold Builtin.«BaseException.__new__»
  refine wpAt_bind ?_
  show wpAt _ _ _ (stack >>= _) _ _ _
  refine wpAt_bind (wpAt_stack fun p below => wpAt_of_wpAny ?_)
  wp_walk
  refine wpAt_of_wpAny ?_
  rw [F.owner]
  repeat (first | with_reducible refine wpAny_madeHere_exc F.canon cls ?_ | with_reducible refine wpAny_loadPart_at cls ?_ | (with_reducible refine wpAny_isSubtype_exc cls ?_; first | rw [inB] | rw [notA] | rw [notN]) | wp_step)
  show R _ _
  rw [Heap.size_push]
  exact z
theorem type_callK (F : ExcBaseFacts B newId initId bmB) (same : ∀ X : String, bm.contains (.type X) = bmB.contains (.type X)) {kw : List (Str × Value)} {fI : Addr} {Q : Fin → Shared → Prop}
    (cls : h.get? C = some (excClassObj nm q C N bs bm hdct sn sub ab col dd k0 k1 k2 k3 k5 newId))
    (ini : W.Looks (model prog w) h (typeLookup (.ref C) "__init__") (some (.ref fI))) (bnd : ∀ self, W.Looks (model prog w) h (bindSpecial (.ref fI) self) (.ref fI, [self]))
    (z : codeAny (model prog w) A (.call (.ref fI) ⟨[.ref (h.objs.size + 1)], kw⟩)
      (fun r s' => match r with | .ok (.ret v) => v = .none ∧ Q (.done (.ret (.ref (h.objs.size + 1)))) s' | .ok _ => False | .error e => E e s') ⟨(h.push (W.kdv_tup [])).push (excO C h.objs.size), g, d, t, os⟩) :
    wpAny (model prog w) A (Builtin.«type.__call__» ⟨[.ref C], kw⟩) Q E ⟨h, g, d, t, os⟩ := by
  repeat (first | with_reducible refine wpAny_loadPart_at cls ?_ | with_reducible refine wpAny_madeBy_exc cls ?_ | wp_step)
  refine codeAny_call_builtin_code (Code.quiet_builtin _ F.quiet) (check_newK F same cls ?_)
  refine newK F same cls ?_
  show wpAny _ _ _ _ _ _
  have keep : ∀ b o, h.get? b = some o → ((h.push (W.kdv_tup [])).push (excO C h.objs.size)).get? b = some o := fun b o e => Heap.get?_push_of_some _ (Heap.get?_push_of_some _ e)
  have cls1 := keep _ _ cls
  have made : ((h.push (W.kdv_tup [])).push (excO C h.objs.size)).get? (h.objs.size + 1) = some (excO C h.objs.size) := by heap_get
  have self : (Value.ref C :: bm).contains (.ref C) = true := by simp
  have ini1 := ini.keeps keep
  have bnd1 := (bnd (.ref (h.objs.size + 1))).keeps keep
  unfold isInstance
  repeat (first | with_reducible refine wpAny_loadPart_at made ?_ | (with_reducible refine wpAny_isSubtype_exc cls1 ?_; rw [self]) | wp_step)
  show wpAny _ _ (typeLookup (.ref C) _) _ _ _
  refine ini1.at ?_
  refine wpAny_holding (wpAny_bind (bnd1.at ?_))
  refine wpAny_bind (wpAny_call (codeAny_mono z fun r s' y => ?_))
  rcases r with e | (v | _ | _ | _) <;> first | exact y | exact y.elim | skip
  obtain ⟨rfl, y⟩ := y
  first
    | exact wpAny_pure (wpAny_pure y)
    | (wp_walk; exact y)
theorem instTy {M : Model} (cls : h.get? C = some (excClassObj nm q C N bs bm hdct sn sub ab col dd k0 k1 k2 k3 k5 newId)) : W.Looks M h (isInstance (.ref C) (.type "type")) true := by
  have ty : W.Looks M h (typeOf (.ref C)) (.type "type") := (W.Looks.ld cls).andThen .now
  exact ty.andThen (.of_pure tc_sub)
theorem call_K (F : ExcBaseFacts B newId initId bmB) (same : ∀ X : String, bm.contains (.type X) = bmB.contains (.type X)) {kw : List (Str × Value)} {fI : Addr}
    (cls : h.get? C = some (excClassObj nm q C N bs bm hdct sn sub ab col dd k0 k1 k2 k3 k5 newId))
    (ini : W.Looks (model prog w) h (typeLookup (.ref C) "__init__") (some (.ref fI))) (bnd : ∀ self, W.Looks (model prog w) h (bindSpecial (.ref fI) self) (.ref fI, [self]))
    (z : codeAny (model prog w) (A.under (.builtin "type.__call__" ⟨[.ref C], kw⟩)) (.call (.ref fI) ⟨[.ref (h.objs.size + 1)], kw⟩) (W.InitBack (h.objs.size + 1) R) ⟨(h.push (W.kdv_tup [])).push (excO C h.objs.size), g, d, t, os⟩) :
    codeAny (model prog w) A (.call (.ref C) ⟨[], kw⟩) R ⟨h, g, d, t, os⟩ := by
  have look := tc_lookup
  have bind := tc_bind (.ref C)
  have ty : (⟨h, g, d, t, os⟩ : Shared).TypeIs (.ref C) "type" := ⟨_, cls, rfl⟩
  refine codeAny_of_tree ?_
  show wpAny _ _ (callAny (.ref C) _) _ _ _
  repeat (any_goals (first | assumption | with_reducible refine wpAny_loadPart_at cls ?_ | wp_step))
  refine ⟨rfl, ?_⟩
  refine codeAny_call_builtin_at (Code.quiet_builtin _ (by decide +kernel)) entry_typeCall (W.check_slot tc_kind tc_split ?_ (W.tc_args _ [] kw) ?_)
  · exact instTy cls
  · refine type_callK F same cls ini bnd ?_
    refine codeAny_mono z fun r s' y => ?_
    rcases r with e | (v | _ | _ | _) <;> exact y
end
end HandSPX
end PySem

/-! Exceptions of a program's own classes as values: over any base of the library's, called by place or by name, their fields read, isinstance of them. -/
namespace PySem
namespace HandSPX
open Builtin Builtin.ObjectAttr
section
variable {prog : Program} {w : World} {A : Around} {E : Value → Shared → Prop} {R : Result → Shared → Prop} {hp : Heap} {g : Array GenState} {d : Drawn} {t : Nat} {os : OsState}
/-- the first store into an exception that has no dict: told of the classes above by what they let pass -/
theorem store_first {K : W.Frag} {name : Str} {tk : Tok} {v : Value} {x C : Addr} {fv : Array Value} {cd : ClassData} (X : K.In hp) (here : hp.get? x = some { cls := .ref C, data := .fields fv }) (dat : W.clsIn K C = some cd)
    (full : cd.mro.isEmpty = false) (top : cd.mro.contains (.type "object") = true) (lets : refuseLoop (.ref x) "__setattr__" cd.mro = pure ()) (dic : cd.hasDict = true) (no : W.findIn K (.ref C) name = some none)
    (z : ∀ h' tk' dx, (∀ b o, b ≠ x → hp.get? b = some o → h'.get? b = some o) → hp.objs.size ≤ dx → dx ≠ x → h'.get? x = some { cls := .ref C, dict := some dx, data := .fields fv } →
      h'.Ns1 dx (fun y => if y = name then some v else none) → R (.ok (.ret .none)) ⟨h', g, d, tk', os⟩) :
    codeAny (model prog w) A (.call (.builtin "object.__setattr__") ⟨[.ref x, .str name tk, v], []⟩) R ⟨hp, g, d, t, os⟩ := by
  have inst : W.InstAt hp x { cls := .ref C, data := .fields fv } C none := ⟨here, rfl, rfl, trivial⟩
  have facts := F.store_object
  have apart : x ≠ hp.objs.size := Nat.ne_of_lt (Heap.lt_size here)
  have is_ : W.Looks (model prog w) hp (isInstance (.ref x) (.type "object")) true := inst.type.andThen (W.looks_mroIn X (by unfold W.mroIn; rw [dat, Option.bind_some, if_neg (by rw [full]; decide), top]))
  refine codeAny_call_builtin facts.slot.plain facts.entry (@W.check_slot (model prog w) _ _ ⟨hp, g, d, t, os⟩ "object.__setattr__" "object" "__setattr__" (.ref x) [.str name tk, v] [] _ facts.kind facts.split is_ (facts.args (.ref x) (.str name tk) v) ?_)
  have chain : W.Looks (model prog w) hp (mroOf (.ref C)) cd.mro := (W.looks_clsIn X dat).andThen .now
  have taker : W.Looks (model prog w) hp (storeTaker? none) none := .now
  have data : W.Looks (model prog w) hp (classData C) cd := W.looks_clsIn X dat
  rw [W.osa_eq, refuse_eq]
  refine wpAny_bind (wpAny_bind (inst.type.at (wpAny_bind (chain.at ?_))))
  rw [lets]
  refine wpAny_pure (wpAny_bind (inst.type.at (wpAny_bind ((W.looks_findIn X no).at (wpAny_bind (taker.at ?_))))))
  show wpAny _ _ (storeInOwnDict (.ref x) (.ref C) (.str name tk) name v false) _ _ _
  obtain ⟨nm, bs, mro, ns, qn, hd, sn, sb, ab, col, del⟩ := cd
  dsimp only at dic
  subst dic
  unfold storeInOwnDict ownDictForStores
  repeat (first | with_reducible refine store_in_new ?_ ?_ | with_reducible refine wpAny_loadPart_at here ?_ | with_reducible refine data.at ?_ | wp_step)
  · exact ⟨_, #[], _, (Heap.get?_update_ne _ _ _ _ apart.symm).trans (Heap.get?_push_at rfl rfl), rfl, fun e he => absurd he (by simp), fun _ => rfl⟩
  · intro h' tk' hn' hs
    have now_ : (hp.push { cls := .type "dict", data := .dict #[] }).get? x = some { cls := .ref C, data := .fields fv } := Heap.get?_push_of_some _ here
    exact z h' tk' hp.objs.size (fun b o hb ho => (hs.2 b (Nat.ne_of_lt (Heap.lt_size ho))).trans ((Heap.get?_update_ne _ _ _ _ hb).trans (Heap.get?_push_of_some _ ho))) (Nat.le_refl _) apart.symm
      ((hs.2 x apart).trans (Heap.get?_update_self _ now_ rfl)) hn'
end
end HandSPX
end PySem

namespace OO
open PySem PySem.Spec PyProof.Rows L2 TL GG
/-- what is known of an exception class C of one's own, over a base of the library's -/
structure ExB (K : PySem.W.Frag) (mg : Str → Option Value) (nm : Str) (C fI : Addr) : Prop where
  g : mg nm = some (.ref C)
  cls : ∃ (nn q : Str) (N : Addr) (bs bm bmB : List Value) (sn : List Str) (sub : List Value) (ab : Bool) (col : Option Bool) (dd : Option Addr) (k0 k1 k2 k3 k5 : Option Value) (newId B initId : String),
    K.lookup C = some (excClassObj nn q C N bs bm true sn sub ab col dd k0 k1 k2 k3 k5 newId) ∧ PySem.W.excTail bmB bm = true ∧ ExcBaseFacts B newId initId bmB ∧ (∀ self, refuseLoop self "__setattr__" bmB = pure ()) ∧ bmB.contains (.type "object") = true
  sa : PySem.W.findIn K (.ref C) "__setattr__" = some (some (.builtin "object.__setattr__"))
  ex : PySem.W.subIn K (.ref C) (.type "BaseException") = some true
  kC : PySem.W.keepIn K (.ref C) = true
  ga : PySem.W.findIn K (.ref C) "__getattribute__" = some (some (.builtin "BaseException.__getattribute__"))
  gg : PySem.W.findIn K (.ref C) "__getattr__" = some none
  hd : PySem.W.hasDictIn K C = true
  i : PySem.W.findIn K (.ref C) "__init__" = some (some (.ref fI))
  t : PySem.W.typeIn K (.ref fI) = some (.type "function")
  cl : PySem.W.findIn K (.ref C) "__class__" = some (some (.builtin "object.__class__"))
  mo : PySem.W.mroIn K C (.type "object") = some true
/-- how object.__class__ is bound -/
structure ClsD (K : PySem.W.Frag) : Prop where
  hn : PySem.W.specialIn K (.builtin "object.__class__") "__get__" = some (some (.builtin "getset_descriptor.__get__"))
  tk : PySem.W.takesIn K (.builtin "object.__class__") = some true
section
variable {X : Cx} {nm : Str} {C fI : Addr} {pins : List (Addr × Obj)} {σ : L2.St} {H : Hp} {s : Shared} {a dx : Addr} {f : Str} {y : V} {u : Value} {fs : List (Str × V)} {E : Value → Shared → Prop} {A : Around}
theorem ost_first {Q : Unit → Shared → Prop} (T : ExB X.K X.mg nm C fI) (I : Inv X pins σ H s) (e : H a = some (exo a C none)) (no : PySem.W.findIn X.K (.ref C) f = some none) (ry : RelV y u)
    (z : ∀ dx s', H dx = none → dx ≠ a → Inv X pins σ (upd (upd H dx (exd dx [(f, y)])) a (exo a C (some dx))) s' → Q () s') : wpAny (model X.prog X.w) A (setAttr (.ref a) f u) Q E s := by
  obtain ⟨nn, q, N, bs, bm, bmB, sn, sub, ab, col, dd, k0, k1, k2, k3, k5, newId, B, initId, hC, tail, _, pass, obj⟩ := T.cls
  have dat : PySem.W.clsIn X.K C = some { name := nn, bases := bs, mro := .ref C :: bm, ns := N, qualname := q, hasDict := true, slotNames := sn, subclasses := sub, abstract := ab, collection := col, hasDel := false } := by
    unfold PySem.W.clsIn
    rw [hC] <;> rfl
  obtain ⟨t1, ho⟩ := exo_at I.hok e
  obtain ⟨hp, g, d, t, os⟩ := s
  refine PySem.W.set_plain I.kIn (ox := { cls := .ref C, dict := none, data := .fields #[.ref t1, .none, .none, .none, .bool false, .none] }) (od := none) ⟨ho, rfl, rfl, trivial⟩ T.sa ?_
  refine PySem.HandSPX.store_first I.kIn ho dat rfl (by rw [List.contains_cons, PySem.W.excTail_contains "object" _ tail, obj, Bool.or_true]) (by rw [refuseLoop_ref]; exact PySem.W.excTail_pass _ (pass _) _ tail) rfl no (fun h' tk' dx keep fresh ne now_ names => ?_)
  have nd : H dx = none := I.hok.fresh fresh
  have old : ∀ {b : Addr} {o : Obj}, hp.get? b = some o → b ≠ dx := fun {b o} w => Nat.ne_of_lt (Nat.lt_of_lt_of_le (Heap.lt_size w) fresh)
  have oth : ∀ {b : Addr}, H b = none → b ≠ a := fun {b} n w => by
    rw [w, e] at n
    cases n
  have U : Un X.fs [] H (upd (upd H dx (exd dx [(f, y)])) a (exo a C (some dx))) hp h' := {
    keep := fun b o w n _ _ => keep b o (oth n) w
    slot := fun b o w n _ _ => ⟨o.slots, keep b o (oth n) w⟩
    free := fun b o w n _ => by rw [upd_ne (oth n), upd_ne (old w)]; exact n
    there := fun b o w _ => by
      by_cases hb : b = a
      · exact ⟨_, by rw [hb]; exact now_⟩
      · exact ⟨o, keep b o hb w⟩
    tups := fun b xs w => by rw [upd_ne (at_ne e w exo_tup), upd_ne (ne_of_none w nd)]; exact w
    frzs := fun b o v w => by rw [upd_ne (at_ne e w exo_frz), upd_ne (ne_of_none w nd)]; exact w
    tbls := fun b ps w => ⟨#[], by rw [upd_ne (at_ne e w exo_tbl), upd_ne (ne_of_none w nd), w]; simp⟩ }
  refine z dx _ nd ne (I.un (t' := tk') U fun b o w => ?_)
  by_cases hb : b = a
  · subst hb
    rw [upd_same] at w
    cases w
    exact exo_ok now_
  · rw [upd_ne hb] at w
    by_cases hd : b = dx
    · subst hd
      rw [upd_same] at w
      cases w
      exact exd_ok names (relO_put (fs := []) ry fun _ => True.intro)
    · rw [upd_ne hd] at w
      exact (I.hok b o w).stay (fun c v hc k => keep c v (by
          rcases hc with hc | hc
          · rw [hc]
            exact hb
          · exact at_ne e hc exo_own) k)
        (fun c hc => by rw [upd_ne (at_ne e hc exo_own), upd_ne (ne_of_none hc nd)]; exact hc) (fun c xs hc => by rw [upd_ne (at_ne e hc exo_tup), upd_ne (ne_of_none hc nd)]; exact hc)
/-- self.f = e, the first store into the exception at self -/
def tOstB (C : Addr) (f : Str) (to te : TE) : TS := fun D σ H => te σ H fun y H1 => to σ H1 fun x H2 => ∃ a : Addr, x = .ref a ∧ H2 a = some (exo a C none) ∧ ∀ dx, H2 dx = none → dx ≠ a → D.nx σ (upd (upd H2 dx (exd dx [(f, y)])) a (exo a C (some dx)))
theorem ps_ostB {o e : Expr} {to te : TE} {p' pos : Pos} (T : ExB X.K X.mg nm C fI) (no : PySem.W.findIn X.K (.ref C) f = some none) (ho : PE X o to) (he : PE X e te) (hs : swapsWith e (some (.Attribute o f p')) pos.line X.env = pure false := by rfl) :
    PS X (.Assign [.Attribute o f p'] e pos) (tOstB C f to te) := by
  refine ⟨fun pins s σ H D I h => ?_⟩
  refine plainObj_wpAny_Assign_Attribute (thn (he.run pins s σ H _ I h) fun v s1 ⟨y, H1, I1, r1, q1⟩ => thn (ho.run pins s1 σ H1 _ I1 q1) fun u s2 ⟨x, H2, I2, r2, a, ex, ea, q⟩ => ?_) hs
  subst ex
  obtain rfl : u = Value.ref a := r2
  exact ost_first T I2 ea no r1 fun dx s' n ne J => ⟨σ, _, J, q dx n ne⟩
/-- what a call of the class comes to: the object that its own __init__ got -/
theorem run_mkE {CX : CXT} {k : Nat} {fd : FuncData} {ps ks : List Str} {sp : Sp} {Q : VK} {us ws : List Value} {vs : List V} (T : ExB X.K X.mg nm C fI) (F : FnOk X.prog X.w X.K X.mg X.base CX k fI fd ps sp) (hr : Room (k + 1) X.A)
    (hx : Passes CX X (fun _ _ _ => False)) (I : Inv X pins σ H s) (r : Vals vs (us ++ ws)) (len : us.length ≤ sizeLine) (how : ks = [] ∧ ws = [] ∨ us = [])
    (bnd : ∀ (s : Shared) (self : Value), X.K.In s.heap → BindsTo s fd ⟨self :: us, ks.zip ws⟩ (ps.zip (self :: (us ++ ws))))
    (h : ∀ a, H a = none → sp (.ref a :: vs) (upd H a (exo a C none)) (fun v H2 => v = .non ∧ Q (.ref a) H2) (fun _ _ _ => False)) :
    wpAny (model X.prog X.w) X.A (call (.ref C) us (ks.zip ws)) (EP X pins σ Q) X.xe s := by
  obtain ⟨nn, q, N, bs, bm, bmB, sn, sub, ab, col, dd, k0, k1, k2, k3, k5, newId, B, initId, hC, tail, facts, pass, obj⟩ := T.cls
  obtain ⟨hp, g, dr, tk, os⟩ := s
  have gone : H (hp.objs.size + 1) = none := I.hok.fresh (Nat.le_succ _)
  have keep : ∀ b o, hp.get? b = some o → ((hp.push (PySem.W.kdv_tup us)).push (PySem.HandSPX.excO C hp.objs.size)).get? b = some o := fun b o e => Heap.get?_push_of_some _ (Heap.get?_push_of_some _ e)
  have made : ((hp.push (PySem.W.kdv_tup us)).push (PySem.HandSPX.excO C hp.objs.size)).get? (hp.objs.size + 1) = some (PySem.HandSPX.excO C hp.objs.size) := by heap_get
  have I2 : Inv X pins σ (upd H (hp.objs.size + 1) (exo (hp.objs.size + 1) C none)) ⟨(hp.push (PySem.W.kdv_tup us)).push (PySem.HandSPX.excO C hp.objs.size), g, dr, tk, os⟩ :=
    I.laid (t' := tk) (a := hp.objs.size + 1) (o := exo (hp.objs.size + 1) C none) (h' := (hp.push (PySem.W.kdv_tup us)).push (PySem.HandSPX.excO C hp.objs.size)) keep (Nat.le_succ _) (exo_ok made)
  have r2 : Vals (V.ref (hp.objs.size + 1) :: vs) (Value.ref (hp.objs.size + 1) :: (us ++ ws)) := .cons rfl r
  have body : codeAny (model X.prog X.w) (X.A.under (.builtin "type.__call__" ⟨.ref C :: us, ks.zip ws⟩)) (.call (.ref fI) ⟨.ref (hp.objs.size + 1) :: us, ks.zip ws⟩)
      (PySem.W.InitBack (hp.objs.size + 1) fun rr s' => match rr with | .ok (.ret v) => EP X pins σ Q v s' | .ok _ => False | .error e => X.xe e s') ⟨(hp.push (PySem.W.kdv_tup us)).push (PySem.HandSPX.excO C hp.objs.size), g, dr, tk, os⟩ := by
    refine codeAny_mono (F.run _ X.stack _ _ ⟨Value.ref (hp.objs.size + 1) :: us, ks.zip ws⟩ (Value.ref (hp.objs.size + 1) :: (us ++ ws)) _ _ (fun _ _ _ => False) (hr.make C us (ks.zip ws)) (I2.env0.make C us (ks.zip ws)) (bnd _ _ I2.kIn) r2 (h _ gone)) fun rr s' told => ?_
    rcases rr with er | fl
    · exact hx pins σ _ _ er s' I2 told
    · cases fl with
      | next => exact told.elim
      | brk => exact told.elim
      | cont => exact told.elim
      | ret u =>
        obtain ⟨v, H2, I3, rv, ev, q2⟩ := I2.after told
        subst ev
        exact ⟨rv, V.ref (hp.objs.size + 1), H2, I3, rfl, q2⟩
  rcases how with ⟨rfl, rfl⟩ | rfl
  · exact wpAny_call (PySem.HandSPX.call_own facts (fun Y => PySem.W.excTail_contains Y bm tail) (I.kIn _ _ hC) (PySem.W.looks_findIn I.kIn T.i) (fun self => PySem.W.bind_fn I.kIn self T.t) len body)
  · exact wpAny_call (PySem.HandSPX.call_K facts (fun Y => PySem.W.excTail_contains Y bm tail) (I.kIn _ _ hC) (PySem.W.looks_findIn I.kIn T.i) (fun self => PySem.W.bind_fn I.kIn self T.t) body)
end
end OO

namespace OO
open PySem PySem.Spec PyProof.Rows L2 TL GG
/-- at a: an exception of the class C that holds such fields -/
def ExV (C : Addr) (H : Hp) (a : Addr) (fs : List (Str × V)) : Prop := ∃ dx, H a = some (exo a C (some dx)) ∧ H dx = some (exd dx fs)
theorem ExV.same {C : Addr} {H H' : Hp} {a : Addr} {fs : List (Str × V)} (h : ExV C H a fs) (s : Same H H') : ExV C H' a fs := by
  obtain ⟨dx, h1, h2⟩ := h
  exact ⟨dx, s _ _ h1, s _ _ h2⟩
/-- __init__(self, x, y) that stores both -/
def spExI2 (S : Addr) (f1 f2 : Str) : Sp := fun vs H Q _ => ∃ (a : Addr) (v1 v2 : V), vs = [.ref a, v1, v2] ∧ H a = some (exo a S none) ∧ ∀ dx, H dx = none → dx ≠ a → Q .non (upd (upd (upd H dx (exd dx [(f1, v1)])) a (exo a S (some dx))) dx (exd dx [(f2, v2), (f1, v1)]))
theorem mk1 {S : Addr} {f : Str} {v : V} {H : Hp} {Q : Addr → Hp → Prop} {E : XK} (q : ∀ a H', Same H H' → ExV S H' a [(f, v)] → Q a H') :
    ∀ a, H a = none → spExI S f (.ref a :: [v]) (upd H a (exo a S none)) (fun v' H2 => v' = .non ∧ Q a H2) E := fun a ha => by
  refine ⟨a, v, rfl, upd_same, fun dx hdx ne => ⟨rfl, q a _ (fun b o e => ?_) ⟨dx, upd_same, by rw [upd_ne ne]; exact upd_same⟩⟩⟩
  have h1 : b ≠ a := ne_of_none e ha
  have h2 : b ≠ dx := ne_of_none e (by rw [upd_ne ne] at hdx; exact hdx)
  rw [upd_ne h1, upd_ne h2, upd_ne h1]
  exact e
theorem mk2 {S : Addr} {f1 f2 : Str} {v1 v2 : V} {H : Hp} {Q : Addr → Hp → Prop} {E : XK} (q : ∀ a H', Same H H' → ExV S H' a [(f2, v2), (f1, v1)] → Q a H') :
    ∀ a, H a = none → spExI2 S f1 f2 (.ref a :: [v1, v2]) (upd H a (exo a S none)) (fun v' H2 => v' = .non ∧ Q a H2) E := fun a ha => by
  refine ⟨a, v1, v2, rfl, upd_same, fun dx hdx ne => ⟨rfl, q a _ (fun b o e => ?_) ⟨dx, by rw [upd_ne ne.symm]; exact upd_same, upd_same⟩⟩⟩
  have h1 : b ≠ a := ne_of_none e ha
  have h2 : b ≠ dx := ne_of_none e (by rw [upd_ne ne] at hdx; exact hdx)
  rw [upd_ne h2, upd_ne h1, upd_ne h2, upd_ne h1]
  exact e
/-- C(e, ..) as a value -/
def tMkE (C : Addr) (sp : Sp) (t : TA) : TE := fun σ H Q => t σ H fun vs H1 => vs.length ≤ 1000 ∧ ∀ a, H1 a = none → sp (.ref a :: vs) (upd H1 a (exo a C none)) (fun v H2 => v = .non ∧ Q (.ref a) H2) (fun _ _ _ => False)
section
variable {X : Cx} {nm : Str} {C fI : Addr} {CX : CXT} {k : Nat} {fd : FuncData} {ps ks : List Str} {sp : Sp} {x : Str} {e : Expr} {es : List Expr} {kws : List Keyword} {t : TA} {p pos : Pos}
theorem pe_mkE (T : ExB X.K X.mg x C fI) (F : FnOk X.prog X.w X.K X.mg X.base CX k fI fd ps sp) (hr : Room (k + 1) X.A) (hb : Binds X.K fd ps []) (hx : Passes CX X (fun _ _ _ => False)) (hg : Gl X x) (ha : PA X (e :: es) t)
    (hdb : (x == ("__debug__" : Str)) = false := by decide) (he : starEach (e :: es) X.env = (false, eval e X.env) :: starEach es X.env := by rfl) (hpl : (backTo pos (starEach es X.env)).any (·.1) = false := by rfl) :
    PE X (.Call (.Name x p) (e :: es) [] pos) (tMkE C sp t) := by
  refine ⟨fun pins s σ H Q I h => ?_⟩
  refine wpAny_Call_Name_kw (ld_glob I hg T.g ?_ hdb)
  refine PySem.W.callWith_K (h₀ := X.base) I.ok.mod.kin T.kC (thn (ha.run pos pins s σ H _ I h) fun us s1 ⟨vs, H1, I1, r, hz, q⟩ => ⟨I1.kIn, ?_⟩) he hpl
  have len := r.length
  have e0 : H1 (s1.heap.objs.size) = none := I1.hok.fresh (Nat.le_refl _)
  refine run_mkE (ks := []) (ws := []) T F hr hx I1 (by rw [List.append_nil]; exact r) (Nat.le_of_lt (small1000 (by rw [List.nil_append]; omega))) (.inl ⟨rfl, rfl⟩) (fun s' self hk => ?_) q
  have l2 : ((self :: us) ++ []).length = ps.length := by
    have z := F.len _ _ _ _ (q _ e0)
    rw [List.length_cons] at z
    rw [List.append_nil, List.length_cons, ← len]
    exact z
  have z := hb s' (self :: us) hk l2
  rw [List.append_nil] at z ⊢
  exact z
/-- C(k = e, ..) as a value -/
theorem pe_mkEk (T : ExB X.K X.mg x C fI) (F : FnOk X.prog X.w X.K X.mg X.base CX k fI fd ps sp) (hr : Room (k + 1) X.A) (bnd : ∀ (s : Shared) (self : Value) (ws : List Value), X.K.In s.heap → ws.length = ks.length → BindsTo s fd ⟨[self], ks.zip ws⟩ (ps.zip (self :: ws)))
    (hx : Passes CX X (fun _ _ _ => False)) (hg : Gl X x) (hkw : PK X kws t) (hn : ps.length = ks.length + 1) (hall : (backToKw pos (keywordEach kws X.env)).all (·.1.isSome) = true := by rfl) (hks : (backToKw pos (keywordEach kws X.env)).filterMap (·.1) = ks := by rfl)
    (hdb : (x == ("__debug__" : Str)) = false := by decide) (hpl : ((backTo pos (starEach [] X.env)).any (·.1) || (backToKw pos (keywordEach kws X.env)).any (·.1.isNone)) = false := by rfl) :
    PE X (.Call (.Name x p) [] kws pos) (tMkE C sp t) := by
  refine ⟨fun pins s σ H Q I h => ?_⟩
  refine wpAny_Call_Name_kw (ld_glob I hg T.g ?_ hdb)
  refine PySem.W.callWith_KW0 (h₀ := X.base) I.ok.mod.kin T.kC hall (thn (hkw.run pos pins s σ H _ I h) fun ws s1 ⟨vs, H1, I1, r, hz, q⟩ => ⟨I1.kIn, ?_⟩) hpl
  rw [hks]
  have e0 : H1 (s1.heap.objs.size) = none := I1.hok.fresh (Nat.le_refl _)
  have len := r.length
  have z := F.len _ _ _ _ (q _ e0)
  rw [List.length_cons] at z
  exact run_mkE (us := []) (ws := ws) T F hr hx I1 (by rw [List.nil_append]; exact r) (Nat.zero_le _) (.inr rfl) (fun s' self hk => by rw [List.nil_append]; exact bnd s' self ws hk (by omega)) q
/-- e.n of an exception -/
def tGetE (C : Addr) (n : Str) (te : TE) : TE := fun σ H Q => te σ H fun x H1 => ∃ (a : Addr) (fs : List (Str × V)) (v : V), x = .ref a ∧ ExV C H1 a fs ∧ fs.lookup n = some v ∧ Q v H1
theorem inst_of {pins : List (Addr × Obj)} {σ : L2.St} {H : Hp} {s : Shared} {a : Addr} {fs : List (Str × V)} (I : Inv X pins σ H s) (h : ExV C H a fs) : ∃ (ox od : Obj) (mA : Str → Option Value), PySem.W.InstAt s.heap a ox C (some od) ∧ (∀ name, PySem.W.lookIn name od = some (mA name)) ∧ ∀ f, RelO (fs.lookup f) (mA f) := by
  obtain ⟨dx, h1, h2⟩ := h
  obtain ⟨t1, ho⟩ := exo_at I.hok h1
  obtain ⟨mA, hns, hr⟩ := exd_at I.hok h2
  obtain ⟨od, hod, hl⟩ := lookIn_ns hns
  exact ⟨_, od, mA, ⟨ho, rfl, rfl, hod⟩, hl, hr⟩
theorem pe_getE {n : Str} {te : TE} (T : ExB X.K X.mg nm C fI) (no : PySem.W.findIn X.K (.ref C) n = some none) (he : PE X e te) (hb : attributeBase e n X.env (eval e X.env) = eval e X.env := by rfl) : PE X (.Attribute e n pos) (tGetE C n te) := by
  refine ⟨fun pins s σ H Q I h => ?_⟩
  refine attr_of hb (thn (he.run pins s σ H _ I h) fun u s1 ⟨y, H1, I1, ry, a, fs, v, ey, ex, l, q⟩ => ?_)
  subst ey
  obtain rfl : u = Value.ref a := ry
  obtain ⟨ox, od, mA, J, hl, hr⟩ := inst_of I1 ex
  obtain ⟨u, hu, ru⟩ := RelO.some_of (v := v) (o := mA n) (by rw [← l]; exact hr n)
  exact HandSPX.exc_get I1.kIn J T.ga T.gg T.ex (PySem.W.findObj_own T.hd no rfl (by rw [hl, hu])) (handed_of ru) ⟨v, H1, I1.tok _, ru, q⟩
/-- isinstance of an exception -/
def rIsV (K : PySem.W.Frag) (mg : Str → Option Value) : List V → Hp → VK → Prop := fun xs H Q => ∃ (a C fI : Addr) (nm : Str) (fs : List (Str × V)) (c : V) (cv : Value) (b : Bool), xs = [.ref a, c] ∧ ExB K mg nm C fI ∧ ExV C H a fs ∧ ClsV c cv ∧ PySem.W.kitOne K (.ref C) cv = some b ∧ Q (.bl b) H
theorem call_isV (D : ClsD X.K) : CallR X (.builtin "isinstance") (rIsV X.K X.mg) := by
  intro pins s σ H xs us Q I r h
  obtain ⟨a, C, fI, nm, fs, c, cv, b, rfl, T, ex, k, e, q⟩ := h
  obtain ⟨u1, u2, rfl, r1, r2⟩ := vals2 r
  cases (show u1 = Value.ref a from r1)
  have e2 := k.eq r2
  subst e2
  obtain ⟨ox, od, mA, J, _, _⟩ := inst_of I ex
  have hcl : (PySem.W.clsIn X.K C).isSome = true := by
    obtain ⟨cd, hc, _⟩ := PySem.W.any_some T.hd
    rw [hc]
    rfl
  exact PySem.W.kia_one (PySem.W.kitx_exc hcl T.ga T.gg T.ex T.cl D.hn D.tk T.mo) I.kIn J e (fun z => nomatch z) fun tk => ⟨.bl b, H, I.kept (t' := tk) fun _ _ z => z, rfl, q⟩
end
/-- the things of the law: data, and a dict of one entry -/
inductive ThD (K : PySem.W.Frag) (H : Hp) : V → PyData → Prop
  | dat {v : V} {d : PyData} : Dp K H v d → ThD K H v d
  | dic {q : Addr} {z : Str} {i : Int} : H q = some (.dK [(.inr z, .int i)]) → ThD K H (.ref q) (.dict [(.str z, .int i)])
section
variable {X : Cx} {pins : List (Addr × Obj)} {σ : L2.St} {H : Hp} {s : Shared}
theorem ThD.reads (I : Inv X pins σ H s) {v : V} {d : PyData} {u : Value} (h : ThD X.K H v d) (r : RelV v u) : ∃ as, Reads s.heap u d as ∧ (d.hasDict = true → sysModules ∉ as) := by
  cases h with
  | dat hd =>
    obtain ⟨as, rd⟩ := Dp.reads I _ _ _ hd r
    exact ⟨as, rd, PyData.noDict_hsm (dp_noDict _ _ hd)⟩
  | @dic q z i hq =>
    cases (show u = Value.ref q from r)
    obtain ⟨_, hne, vs, kv, o, es, ep, ho, ex, hd, _, pr, _⟩ := dk_of I.hok hq
    cases kv with
    | cons kv1 kv2 =>
      cases kv2
      rename_i p0 _
      obtain ⟨k1, k2⟩ := kv1
      obtain ⟨a0, b0⟩ := p0
      cases (show (Sum.inr z : Key) = a0 from k1)
      obtain ⟨tk, hb⟩ := (show ∃ tk, b0 = Value.int i tk from k2)
      subst hb
      generalize hes : es.toList = el at pr
      cases pr with
      | @cons e1 kv1 es1 kvs1 hk hv hr =>
        cases hr
        rcases keyIs_shape (show keyIs (Sum.inr z) e1.key = true from hk) with ⟨i2, t2, h1, _⟩ | ⟨x2, t2, h1, h2⟩
        · exact nomatch h1
        · cases h1
          have rd : Reads s.heap (.ref q) (.dict [(.str z, .int i)]) (q :: ([] ++ []) ++ ([] ++ [])) := Reads.dict (kvs := [(PyData.str z, PyData.int i)]) ho ex.1 hd (by rw [hes]; show ReadsAll _ [e1.key] _ _; rw [h2]; exact .cons (.str _ _) .nil) (by rw [hes]; show ReadsAll _ [e1.val] _ _; rw [hv]; exact .cons (.int _ _) .nil)
          refine ⟨_, rd, fun _ hm => ?_⟩
          rcases List.mem_cons.mp hm with e | e
          · rw [← e] at hne
            exact absurd (beq_self_eq_true _) (by rw [hne]; exact Bool.false_ne_true)
          · exact nomatch e
theorem th_all (I : Inv X pins σ H s) {v : V} {d : PyData} (h : ThD X.K H v d) : ∀ (n : Nat) (us : List Value), Vals (List.replicate n v) us → ∃ as, ReadsAll s.heap us (List.replicate n d) as ∧ (d.hasDict = true → sysModules ∉ as)
  | 0, us, r => by
    cases r
    exact ⟨_, .nil, fun _ => List.not_mem_nil⟩
  | n + 1, us, r => by
    rw [List.replicate_succ] at r
    cases r with
    | cons r1 r2 =>
      obtain ⟨as, ra, ha⟩ := h.reads I r1
      obtain ⟨bs, rb, hb⟩ := th_all I h n _ r2
      rw [List.replicate_succ]
      refine ⟨_, .cons ra rb, fun hd hm => ?_⟩
      rcases List.mem_append.mp hm with e | e
      · exact ha hd e
      · exact hb hd e
theorem showAll_rep (d : PyData) : ∀ n : Nat, PyData.shownAll (List.replicate n d) = List.replicate n d.shown
  | 0 => by simp only [List.replicate_zero, PyData.shownAll]
  | n + 1 => by rw [List.replicate_succ, List.replicate_succ]; simp only [PyData.shownAll, showAll_rep d n]
theorem showable_rep (d : PyData) (h : d.showable = true) : ∀ n : Nat, PyData.showableAll (List.replicate n d) = true
  | 0 => by simp only [List.replicate_zero, PyData.showableAll]
  | n + 1 => by rw [List.replicate_succ]; simp only [PyData.showableAll, h, showable_rep d h n, Bool.and_self]
theorem hasDict_rep (d : PyData) : ∀ n : Nat, PyData.hasDictAll (List.replicate n d) = true → d.hasDict = true
  | 0, h => by simp [PyData.hasDictAll] at h
  | n + 1, h => by
    rw [List.replicate_succ] at h
    simp only [PyData.hasDictAll, Bool.or_eq_true] at h
    rcases h with h | h
    · exact h
    · exact hasDict_rep d n h
theorem depth_rep (d : PyData) : ∀ n : Nat, PyData.depthAll (List.replicate n d) ≤ d.depth
  | 0 => by simp only [List.replicate_zero, PyData.depthAll]; exact Nat.zero_le _
  | n + 1 => by
    have := depth_rep d n
    rw [List.replicate_succ]
    simp only [PyData.depthAll]
    omega
/-- repr of a list in which one thing stands n + 1 times -/
def rReprR (K : PySem.W.Frag) (xs : List V) (H : Hp) (Q : VK) : Prop := ∃ (p : Addr) (n : Nat) (v : V) (d : PyData), xs = [.ref p] ∧ H p = some (.lst (List.replicate (n + 1) v)) ∧ ThD K H v d ∧ d.showable = true ∧
  (listText (List.replicate (n + 1) d.shown)).length ≤ sizeLine ∧ d.depth ≤ 50 ∧ Q (.str (listText (List.replicate (n + 1) d.shown))) H
theorem call_reprR (gd : X.A.guards = some []) (hu : X.A.units + 65 < cLine) : CallR X (.builtin "repr") (rReprR X.K) := by
  intro pins s σ H xs us Q I r h
  obtain ⟨p, n, v, d, rfl, hp, th, hs, hz, hd, q⟩ := h
  obtain ⟨u, rfl, ru⟩ := vals1 r
  cases (show u = Value.ref p from ru)
  obtain ⟨hl, vs, c, rv, ho⟩ := (show ObjOk X.prog X.w H s.heap p (.lst (List.replicate (n + 1) v)) from I.hok p _ hp)
  obtain ⟨as, ra, no⟩ := th_all I th (n + 1) vs rv
  have rl : Reads s.heap (.ref p) (.list (List.replicate (n + 1) d)) (p :: as) := Reads.list ho rfl rfl (by simpa using ra)
  have hda := depth_rep d (n + 1)
  obtain ⟨bs, hb, hk⟩ := ReprAllK.of_readsAll (prog := X.prog) (w := X.w) ra (showable_rep d hs _) (fun hx => no (hasDict_rep d _ hx)) (fun t ht => Nat.le_trans (listText_mem_le ht) (by rw [showAll_rep]; exact hz))
  have hna : p ∉ bs := not_mem_of_deeper rl (by simp only [PyData.depth]; omega) hb
  rw [showAll_rep] at hk
  cases vs with
  | nil =>
    rw [List.replicate_succ] at rv
    cases rv
  | cons x l =>
    refine call_repr_slot (by omega) ⟨_, ho, rfl⟩ F.slot_list_repr.toG ?_
    exact call_list_reprK ho rfl rfl hna (by simpa using hk.length_eq) (fun i y e => hk.item i y (by simpa using e)) (show X.A.in1.guards = some [] from gd) (fun b _ => Clear.nil b) (by show X.A.units + 1 + (PyData.depthAll (List.replicate (n + 1) d) + 1) < cLine; omega) (fun _ _ z => z)
      (fun h' u tk keep => ⟨_, _, rfl, .str _, H, I.kept (t' := tk) keep, ⟨_, rfl⟩, q⟩) hz
end
end OO

namespace K01
open PySem PySem.Spec PyProof.Rows L2 TL GG OO
def topS (i : Nat) : Stmt := PySem.Challenge.pw_pulledout_k01_error_classes.main.body.getD i (.Pass ⟨0, 0, 0, 0⟩)
abbrev s_PullError : Stmt := topS 1
abbrev s_InvalidItem : Stmt := topS 2
abbrev s_InvalidStep : Stmt := topS 3
abbrev s_InvalidBook : Stmt := topS 4
abbrev s_InvalidState : Stmt := topS 5
abbrev s_InvalidMove : Stmt := topS 6
abbrev s_InvalidText : Stmt := topS 7
abbrev s_InvalidCommand : Stmt := topS 8
abbrev s_InvalidOption : Stmt := topS 9
abbrev s_NotRight : Stmt := topS 10
abbrev s_Faulty : Stmt := topS 11
abbrev s_InvalidNumber : Stmt := topS 12
abbrev s_UnknownName : Stmt := topS 13
abbrev s_LimitExceeded : Stmt := topS 14
abbrev s_NothingToUndo : Stmt := topS 15
abbrev s_l_numbers : Stmt := topS 17
abbrev s_l_made : Stmt := topS 18
abbrev s_l_held : Stmt := topS 19
abbrev s_l_marks : Stmt := topS 20
abbrev s_l_kinds_right : Stmt := topS 21
abbrev s_law : Stmt := topS 22
abbrev si_InvalidItem : Stmt := inClass s_InvalidItem 0
abbrev si_InvalidStep : Stmt := inClass s_InvalidStep 0
abbrev si_InvalidBook : Stmt := inClass s_InvalidBook 0
abbrev si_InvalidState : Stmt := inClass s_InvalidState 0
abbrev si_InvalidMove : Stmt := inClass s_InvalidMove 0
abbrev si_InvalidText : Stmt := inClass s_InvalidText 0
abbrev si_InvalidOption : Stmt := inClass s_InvalidOption 0
abbrev si_InvalidCommand : Stmt := inClass s_InvalidCommand 0
abbrev si_NotRight : Stmt := inClass s_NotRight 0
abbrev si_Faulty : Stmt := inClass s_Faulty 0
abbrev si_InvalidNumber : Stmt := inClass s_InvalidNumber 0
abbrev si_UnknownName : Stmt := inClass s_UnknownName 0
abbrev si_LimitExceeded : Stmt := inClass s_LimitExceeded 0
abbrev si_NothingToUndo : Stmt := inClass s_NothingToUndo 0
/-- built-ins by their names -/
structure Blt (K : PySem.W.Frag) (mg : Str → Option Value) : Prop where
  m_max : mg "max" = none
  m_range : mg "range" = none
  m_len : mg "len" = none
  m_isinstance : mg "isinstance" = none
  m_repr : mg "repr" = none
  m_enumerate : mg "enumerate" = none
  m_ValueError : mg "ValueError" = none
  m_LookupError : mg "LookupError" = none
  m_OverflowError : mg "OverflowError" = none
  m_RuntimeError : mg "RuntimeError" = none
section
variable {P : Program} {w : World} {K : PySem.W.Frag} {mg : Str → Option Value} {base : Heap}
def spNum (K : PySem.W.Frag) : Sp := fun vs H Q _ => ∃ (c s : Int) (a : Addr) (zs : List Int), vs = [.int c, .int s, .ref a] ∧ SqL K H a (zs.map V.int) ∧ (0 ≤ s ∧ s ≤ 100000) ∧ zs.length ≤ 1000 ∧ (∀ z ∈ zs, 0 < z ∧ z < 1000000) ∧
  ∀ (H' : Hp) (p : Addr) (ns : List Int), Same H H' → H p = none → H' p = some (.lst (ns.map V.int)) → ns.length = zs.length → Below zs ns → Q (.ref p) H'
theorem small_mod (x : Int) : (x % 2147483629).natAbs < 2 ^ 64 := by
  have h1 := Int.emod_nonneg x (show (2147483629 : Int) ≠ 0 by decide)
  have h2 := Int.emod_lt_of_pos x (show (0 : Int) < 2147483629 by decide)
  omega
theorem scNum : FnScope ["_law_cell", "_law_salt", "_law_sizes", "_law_whole", "_law_left", "_law_result", "_law_k", "_law_one"] ["_law_cell", "_law_salt", "_law_sizes"] (defScope s_l_numbers) := ⟨rfl, rfl, rfl, by decide +kernel, rfl, by decide +kernel, by decide +kernel⟩
theorem ok_num {f : Addr} {fd : FuncData} (F : Fun K "_law_numbers" "_law_numbers" s_l_numbers f fd) (mm : mg "max" = none) (mr : mg "range" = none) (ml : mg "len" = none) : FnOk P w K mg base CX0 1 f fd ["_law_cell", "_law_salt", "_law_sizes"] (spNum K) := by
  refine F.ok scNum (fun vs H Q E h => ?_) (fun cdv A outer s H vs Q E hr h => ?_)
  · obtain ⟨c, s, a, zs, rfl, _⟩ := h
    rfl
  · obtain ⟨c, sa, a, zs, rfl, hS, ⟨hs0, hs1⟩, hlen, hz, q⟩ := h
    refine ⟨_, (pss_cons (ps_set (i := 3) scNum.nd rfl (.inl rfl) (pe_callB (call_max2 rfl) (by rfl) mm (by decide +kernel) (pa_cons (pv 0) (pa_cons (pe_op op_sub (pe_un un_neg pe_int) (pv 0)) pa_nil)))) 
        (pss_cons (ps_set (i := 4) scNum.nd rfl (.inl rfl) (pv 3)) 
        (pss_cons (ps_set (i := 5) scNum.nd rfl (.inl rfl) (pe_lst pa_nil)) 
        (pss_cons (ps_for PassesOwn.never rfl (pi_range1 rfl mr (pa_cons (pe_callB call_len_seq (by rfl) ml PySem.boot_len (pa_cons (pv 2) pa_nil)) pa_nil)) (pg_name (i := 6) scNum.nd rfl (.inl rfl)) 
          (pss_one (ps_if (PW.pt (pw_and (pt_cmpR op_ge (pv 3) (pe_op op_pow pe_int pe_int) (nomark _)) (pw_and1 (pt_cmpR op_gt (pv 4) pe_int (nomark _))))) 
            (pss_cons (ps_expr (pe_bm PySem.F.plainAttrs_list PySem.F.slot_list_append PySem.F.type_list_append mt_append (pv 5) (pa_cons (pe_op op_mod (pv 4) (pe_ix ix_list (pv 2) (pv 6) (fun _ _ => rfl))) pa_nil))) 
            (pss_one (ps_set (i := 4) scNum.nd rfl (.inl rfl) (pe_op op_fdivN (pv 4) (pe_ix ix_list (pv 2) (pv 6) (fun _ _ => rfl)))))) 
            (pss_cons (ps_set (i := 7) scNum.nd rfl (.inl rfl) (pe_op op_mod (pe_op op_pow (pe_op op_add (pe_op op_add (pe_op op_mod (pv 3) pe_int) (pe_op op_mul pe_int (pv 1))) pe_int) pe_int) pe_int)) 
            (pss_cons (ps_set (i := 7) scNum.nd rfl (.inl rfl) (pe_op op_mod (pe_op op_mul (pe_op op_add (pv 7) (pe_op op_mul pe_int (pe_op op_add (pv 6) pe_int))) (pe_op op_add (pv 6) pe_int)) pe_int)) 
            (pss_cons (ps_set (i := 7) scNum.nd rfl (.inl rfl) (pe_op op_mod (pe_op op_mul (pe_op op_mod (pe_op op_pow (pv 7) pe_int) pe_int) pe_int) pe_int)) 
            (pss_one (ps_expr (pe_bm PySem.F.plainAttrs_list PySem.F.slot_list_append PySem.F.type_list_append mt_append (pv 5) (pa_cons (pe_op op_mod (pe_op op_fdivN (pv 7) pe_int) (pe_ix ix_list (pv 2) (pv 6) (fun _ _ => rfl))) pa_nil)))))))))) 
        (pss_one (ps_ret (pv 5))))))), ?_⟩
    -- whole = max(cell, -1 - cell); left = whole; result = []
    refine ⟨_, rfl, _, rfl, _, rfl, _, _, rfl, rfl, _, _, rfl, _, rfl, ?_⟩
    generalize hwh : (if -1 - c > c then -1 - c else c) = wh
    refine ⟨Nat.zero_le _, fun p hp => ?_⟩
    have s0 : Same H (upd H p (.lst [])) := same_upd hp
    refine ⟨_, rfl, a, zs.map V.int, rfl, .inl (s0.seq hS), _, rfl, by rw [List.length_map]; omega, by rw [List.length_map]; omega, for_range (lo := 0) (fun i σ H' => ∃ (left : Int) (ns : List Int) (y6 y7 : Option V), σ = [some (.int c), some (.int sa), some (.ref a), some (.int wh), some (.int left), some (.ref p), y6, y7] ∧ Same H H' ∧ H' p = some (.lst (ns.map V.int)) ∧ ns.length = i ∧ Below zs ns)
      ⟨wh, [], none, none, rfl, s0, upd_same, rfl, fun i z n _ h => by simp at h⟩ ?_ ?_⟩
    · rintro i σ H' hi ⟨left, ns, y6, y7, rfl, s1, hp1, hn, hb⟩
      have hi2 : i < zs.length := by
        rw [List.length_map] at hi
        omega
      have hzi : zs[i]? = some zs[i] := List.getElem?_eq_getElem hi2
      obtain ⟨hz0, hz1⟩ := hz zs[i] (List.getElem_mem hi2)
      have hat : atI (zs.map V.int) (0 + (i : Int)) = some (.int zs[i]) := by
        rw [Int.zero_add]
        exact atI_nat (by rw [List.getElem?_map, hzi]; rfl)
      have fin : ∀ (r : Int), 0 ≤ r → r < zs[i] → ns.length < sizeLine ∧ Same H (upd H' p (.lst (ns.map V.int ++ [V.int r]))) ∧ (upd H' p (.lst (ns.map V.int ++ [V.int r]))) p = some (.lst ((ns ++ [r]).map V.int)) ∧ (ns ++ [r]).length = i + 1 ∧ Below zs (ns ++ [r]) := fun r h0 h1 =>
        ⟨small1000 (by omega), same_st s1 hp, by rw [upd_same, List.map_append]; rfl, by rw [List.length_append, List.length_singleton, hn], below_snoc hb (by rw [hn]; exact hzi) h0 h1⟩
      refine ⟨_, rfl, _, _, rfl, rfl, ⟨by decide, by decide, by decide⟩, _, _, rfl, rfl, _, rfl, ite2 (fun _ => ⟨_, rfl, _, _, rfl, rfl, _, rfl, ite2 (fun _ => ?thn) (fun _ => ?els1)⟩) (fun _ => iteF ?els2)⟩
      case thn =>
        obtain ⟨f1, f2, f3, f4, f5⟩ := fin (left % zs[i]) (Int.emod_nonneg _ (by omega)) (Int.emod_lt_of_pos _ hz0)
        refine ⟨_, rfl, .inl ⟨rfl, _, .inl (.inl hp1)⟩, _, rfl, _, rfl, _, rfl, a, zs.map V.int, _, _, rfl, rfl, s1.seq hS, hat, _, _, rfl, rfl, hz0, p, _, _, rfl, rfl, hp1, (by rw [List.length_map]; exact f1), ?_⟩
        refine ⟨_, rfl, _, rfl, _, rfl, a, zs.map V.int, _, _, rfl, rfl, f2.seq hS, hat, _, _, rfl, rfl, ⟨by omega, by omega⟩, ?_⟩
        exact ⟨_, _, _, _, rfl, f2, f3, f4, f5⟩
      all_goals
        refine ⟨_, rfl, _, _, rfl, rfl, by show (0 : Int) < 2147483629; decide, _, rfl, _, _, rfl, rfl, .inl ⟨by decide, by decide⟩, _, _, rfl, rfl, _, _, rfl, rfl, _, _, rfl, rfl, ⟨by decide, by decide, ?b1⟩, _, _, rfl, rfl, by show (0 : Int) < 2147483647; decide, ?_⟩
        case b1 =>
          have h1 := Int.emod_nonneg wh (show (2147483629 : Int) ≠ 0 by decide)
          have h2 := Int.emod_lt_of_pos wh (show (0 : Int) < 2147483629 by decide)
          show (wh % 2147483629 + 7919 * sa + 1).natAbs < 2 ^ 64
          omega
        refine ⟨_, rfl, _, rfl, _, _, rfl, rfl, _, _, rfl, rfl, .inl ⟨by decide, by decide⟩, _, _, rfl, rfl, _, rfl, _, _, rfl, rfl, _, _, rfl, rfl, .inr ⟨?b2, ?b3⟩, _, _, rfl, rfl, by show (0 : Int) < 2147483629; decide, ?_⟩
        case b2 =>
          show -(2 ^ 64) < (0 + (i : Int)) + 3
          omega
        case b3 =>
          show (0 + (i : Int)) + 3 < 2 ^ 64
          omega
        refine ⟨_, rfl, _, _, rfl, rfl, ⟨by decide, by decide, small_mod _⟩, _, _, rfl, rfl, by show (0 : Int) < 2147483647; decide, _, _, rfl, rfl, .inr ⟨by decide, by decide⟩, _, _, rfl, rfl, by show (0 : Int) < 2147483629; decide, ?_⟩
        have fe := fun r : Int => fin (r % zs[i]) (Int.emod_nonneg _ (by omega)) (Int.emod_lt_of_pos _ hz0)
        refine ⟨_, rfl, .inl ⟨rfl, _, .inl (.inl hp1)⟩, _, rfl, _, _, rfl, rfl, ⟨by decide, by decide⟩, _, rfl, _, rfl, a, zs.map V.int, _, _, rfl, rfl, s1.seq hS, hat, _, _, rfl, rfl, hz0, p, _, _, rfl, rfl, hp1, (by rw [List.length_map]; exact (fe 0).1), ?_⟩
        exact ⟨_, _, _, _, rfl, (fe _).2.1, (fe _).2.2.1, (fe _).2.2.2.1, (fe _).2.2.2.2⟩
    · rintro σ H' ⟨left, ns, y6, y7, rfl, s1, hp1, hn, hb⟩
      exact ⟨_, rfl, q H' p ns s1 hp hp1 (by rw [hn, List.length_map]; omega) hb⟩
end
/-- the fields of the i-th class, of such values -/
def fldOf (x y : V) : Nat → List (Str × V)
  | 0 => [("number", x)]
  | 1 => [("index", x)]
  | 2 => [("name", y), ("part", x)]
  | 3 => [("value", x)]
  | 4 => [("move", x)]
  | 5 => [("line", x)]
  | 6 => [("value", x)]
  | 7 => [("word", x)]
  | 8 => [("run", y), ("word", x)]
  | 9 => [("move", y), ("word", x)]
  | 10 => [("value", x)]
  | 11 => [("name", x)]
  | 12 => [("limit", x)]
  | _ => [("name", x)]
/-- the class of each exception that is made -/
abbrev clsIx : List Nat := [0, 0, 1, 1, 2, 2, 3, 4, 5, 6, 7, 7, 8, 8, 9, 10, 11, 12, 13]
/-- the fourteen classes: what the written part says of them -/
structure Er (K : PySem.W.Frag) (mg : Str → Option Value) (c fi : Nat → Addr) (pe : Addr) : Prop where
  T0 : ExB K mg "InvalidItem" (c 0) (fi 0)
  n0_0 : PySem.W.findIn K (.ref (c 0)) "number" = some none
  T1 : ExB K mg "InvalidStep" (c 1) (fi 1)
  n1_0 : PySem.W.findIn K (.ref (c 1)) "index" = some none
  T2 : ExB K mg "InvalidBook" (c 2) (fi 2)
  n2_0 : PySem.W.findIn K (.ref (c 2)) "part" = some none
  n2_1 : PySem.W.findIn K (.ref (c 2)) "name" = some none
  T3 : ExB K mg "InvalidState" (c 3) (fi 3)
  n3_0 : PySem.W.findIn K (.ref (c 3)) "value" = some none
  T4 : ExB K mg "InvalidMove" (c 4) (fi 4)
  n4_0 : PySem.W.findIn K (.ref (c 4)) "move" = some none
  T5 : ExB K mg "InvalidText" (c 5) (fi 5)
  n5_0 : PySem.W.findIn K (.ref (c 5)) "line" = some none
  T6 : ExB K mg "InvalidOption" (c 6) (fi 6)
  n6_0 : PySem.W.findIn K (.ref (c 6)) "value" = some none
  T7 : ExB K mg "InvalidCommand" (c 7) (fi 7)
  n7_0 : PySem.W.findIn K (.ref (c 7)) "word" = some none
  T8 : ExB K mg "NotRight" (c 8) (fi 8)
  n8_0 : PySem.W.findIn K (.ref (c 8)) "word" = some none
  n8_1 : PySem.W.findIn K (.ref (c 8)) "run" = some none
  T9 : ExB K mg "Faulty" (c 9) (fi 9)
  n9_0 : PySem.W.findIn K (.ref (c 9)) "word" = some none
  n9_1 : PySem.W.findIn K (.ref (c 9)) "move" = some none
  T10 : ExB K mg "InvalidNumber" (c 10) (fi 10)
  n10_0 : PySem.W.findIn K (.ref (c 10)) "value" = some none
  T11 : ExB K mg "UnknownName" (c 11) (fi 11)
  n11_0 : PySem.W.findIn K (.ref (c 11)) "name" = some none
  T12 : ExB K mg "LimitExceeded" (c 12) (fi 12)
  n12_0 : PySem.W.findIn K (.ref (c 12)) "limit" = some none
  T13 : ExB K mg "NothingToUndo" (c 13) (fi 13)
  n13_0 : PySem.W.findIn K (.ref (c 13)) "name" = some none
  o2 : OexC K (c 2)
  o8 : OexC K (c 8)
  o9 : OexC K (c 9)
  any : ∀ i, i < 14 → ∃ nm, ExB K mg nm (c i) (fi i)
  D : ClsD K
  gpe : mg "PullError" = some (.ref pe)
  own : ∀ i j, i < 14 → j < 14 → PySem.W.kitOne K (.ref (c i)) (.ref (c j)) = some (decide (j = i))
  pul : ∀ i, i < 14 → PySem.W.kitOne K (.ref (c i)) (.ref pe) = some (decide (i < 10))
  val : ∀ i, i < 14 → PySem.W.kitOne K (.ref (c i)) (.type "ValueError") = some (decide (i < 11))
  lok : ∀ i, i < 14 → PySem.W.kitOne K (.ref (c i)) (.type "LookupError") = some (decide (i = 11))
  ovf : ∀ i, i < 14 → PySem.W.kitOne K (.ref (c i)) (.type "OverflowError") = some (decide (i = 12))
  run : ∀ i, i < 14 → PySem.W.kitOne K (.ref (c i)) (.type "RuntimeError") = some (decide (i = 13))
/-- their __init__: what it promises, how it is called -/
structure Ini (P : Program) (w : World) (K : PySem.W.Frag) (mg : Str → Option Value) (base : Heap) (c fi : Nat → Addr) (fd : Nat → FuncData) : Prop where
  G0 : FnOk P w K mg base CX0 1 (fi 0) (fd 0) ["self", "number"] (spExI (c 0) "number")
  b0 : Binds K (fd 0) ["self", "number"] []
  k0 : ∀ (s : Shared) (self : Value) (ws : List Value), K.In s.heap → ws.length = (["number"] : List Str).length → BindsTo s (fd 0) ⟨[self], (["number"] : List Str).zip ws⟩ ((["self", "number"] : List Str).zip (self :: ws))
  G1 : FnOk P w K mg base CX0 1 (fi 1) (fd 1) ["self", "index"] (spExI (c 1) "index")
  b1 : Binds K (fd 1) ["self", "index"] []
  k1 : ∀ (s : Shared) (self : Value) (ws : List Value), K.In s.heap → ws.length = (["index"] : List Str).length → BindsTo s (fd 1) ⟨[self], (["index"] : List Str).zip ws⟩ ((["self", "index"] : List Str).zip (self :: ws))
  G2 : FnOk P w K mg base CX0 1 (fi 2) (fd 2) ["self", "part", "name"] (spExI2 (c 2) "part" "name")
  b2 : Binds K (fd 2) ["self", "part", "name"] []
  k2 : ∀ (s : Shared) (self : Value) (ws : List Value), K.In s.heap → ws.length = (["part", "name"] : List Str).length → BindsTo s (fd 2) ⟨[self], (["part", "name"] : List Str).zip ws⟩ ((["self", "part", "name"] : List Str).zip (self :: ws))
  G3 : FnOk P w K mg base CX0 1 (fi 3) (fd 3) ["self", "value"] (spExI (c 3) "value")
  b3 : Binds K (fd 3) ["self", "value"] []
  k3 : ∀ (s : Shared) (self : Value) (ws : List Value), K.In s.heap → ws.length = (["value"] : List Str).length → BindsTo s (fd 3) ⟨[self], (["value"] : List Str).zip ws⟩ ((["self", "value"] : List Str).zip (self :: ws))
  G4 : FnOk P w K mg base CX0 1 (fi 4) (fd 4) ["self", "move"] (spExI (c 4) "move")
  b4 : Binds K (fd 4) ["self", "move"] []
  k4 : ∀ (s : Shared) (self : Value) (ws : List Value), K.In s.heap → ws.length = (["move"] : List Str).length → BindsTo s (fd 4) ⟨[self], (["move"] : List Str).zip ws⟩ ((["self", "move"] : List Str).zip (self :: ws))
  G5 : FnOk P w K mg base CX0 1 (fi 5) (fd 5) ["self", "line"] (spExI (c 5) "line")
  b5 : Binds K (fd 5) ["self", "line"] []
  k5 : ∀ (s : Shared) (self : Value) (ws : List Value), K.In s.heap → ws.length = (["line"] : List Str).length → BindsTo s (fd 5) ⟨[self], (["line"] : List Str).zip ws⟩ ((["self", "line"] : List Str).zip (self :: ws))
  G6 : FnOk P w K mg base CX0 1 (fi 6) (fd 6) ["self", "value"] (spExI (c 6) "value")
  b6 : Binds K (fd 6) ["self", "value"] []
  k6 : ∀ (s : Shared) (self : Value) (ws : List Value), K.In s.heap → ws.length = (["value"] : List Str).length → BindsTo s (fd 6) ⟨[self], (["value"] : List Str).zip ws⟩ ((["self", "value"] : List Str).zip (self :: ws))
  G7 : FnOk P w K mg base CX0 1 (fi 7) (fd 7) ["self", "word"] (spExI (c 7) "word")
  b7 : Binds K (fd 7) ["self", "word"] []
  k7 : ∀ (s : Shared) (self : Value) (ws : List Value), K.In s.heap → ws.length = (["word"] : List Str).length → BindsTo s (fd 7) ⟨[self], (["word"] : List Str).zip ws⟩ ((["self", "word"] : List Str).zip (self :: ws))
  G8 : FnOk P w K mg base CX0 1 (fi 8) (fd 8) ["self", "word", "run"] (spExI2 (c 8) "word" "run")
  b8 : Binds K (fd 8) ["self", "word", "run"] []
  k8 : ∀ (s : Shared) (self : Value) (ws : List Value), K.In s.heap → ws.length = (["word", "run"] : List Str).length → BindsTo s (fd 8) ⟨[self], (["word", "run"] : List Str).zip ws⟩ ((["self", "word", "run"] : List Str).zip (self :: ws))
  G9 : FnOk P w K mg base CX0 1 (fi 9) (fd 9) ["self", "word", "move"] (spExI2 (c 9) "word" "move")
  b9 : Binds K (fd 9) ["self", "word", "move"] []
  k9 : ∀ (s : Shared) (self : Value) (ws : List Value), K.In s.heap → ws.length = (["word", "move"] : List Str).length → BindsTo s (fd 9) ⟨[self], (["word", "move"] : List Str).zip ws⟩ ((["self", "word", "move"] : List Str).zip (self :: ws))
  G10 : FnOk P w K mg base CX0 1 (fi 10) (fd 10) ["self", "value"] (spExI (c 10) "value")
  b10 : Binds K (fd 10) ["self", "value"] []
  k10 : ∀ (s : Shared) (self : Value) (ws : List Value), K.In s.heap → ws.length = (["value"] : List Str).length → BindsTo s (fd 10) ⟨[self], (["value"] : List Str).zip ws⟩ ((["self", "value"] : List Str).zip (self :: ws))
  G11 : FnOk P w K mg base CX0 1 (fi 11) (fd 11) ["self", "name"] (spExI (c 11) "name")
  b11 : Binds K (fd 11) ["self", "name"] []
  k11 : ∀ (s : Shared) (self : Value) (ws : List Value), K.In s.heap → ws.length = (["name"] : List Str).length → BindsTo s (fd 11) ⟨[self], (["name"] : List Str).zip ws⟩ ((["self", "name"] : List Str).zip (self :: ws))
  G12 : FnOk P w K mg base CX0 1 (fi 12) (fd 12) ["self", "limit"] (spExI (c 12) "limit")
  b12 : Binds K (fd 12) ["self", "limit"] []
  k12 : ∀ (s : Shared) (self : Value) (ws : List Value), K.In s.heap → ws.length = (["limit"] : List Str).length → BindsTo s (fd 12) ⟨[self], (["limit"] : List Str).zip ws⟩ ((["self", "limit"] : List Str).zip (self :: ws))
  G13 : FnOk P w K mg base CX0 1 (fi 13) (fd 13) ["self", "name"] (spExI (c 13) "name")
  b13 : Binds K (fd 13) ["self", "name"] []
  k13 : ∀ (s : Shared) (self : Value) (ws : List Value), K.In s.heap → ws.length = (["name"] : List Str).length → BindsTo s (fd 13) ⟨[self], (["name"] : List Str).zip ws⟩ ((["self", "name"] : List Str).zip (self :: ws))
section
variable {P : Program} {w : World} {K : PySem.W.Frag} {mg : Str → Option Value} {base : Heap} {c fi : Nat → Addr} {fd : Nat → FuncData} {pe : Addr}
theorem sci_0 : FnScope ["self", "number"] ["self", "number"] (defScope si_InvalidItem) := ⟨rfl, rfl, rfl, by decide +kernel, rfl, by decide +kernel, by decide +kernel⟩
theorem ok_i0 {fd0 : FuncData} (F : Fun K "__init__" "InvalidItem.__init__" si_InvalidItem (fi 0) fd0) (T : Er K mg c fi pe) : FnOk P w K mg base CX0 1 (fi 0) fd0 ["self", "number"] (spExI (c 0) "number") := by
  refine F.ok sci_0 (fun vs H Q E h => ?_) (fun cdv A outer s H vs Q E hr h => ?_)
  · obtain ⟨a, v, rfl, _⟩ := h
    rfl
  · obtain ⟨a, v, rfl, ha, q⟩ := h
    refine ⟨_, pss_one (ps_ostB T.T0 T.n0_0 (pv 0) (pv 1) rfl), ?_⟩
    exact ⟨_, rfl, _, rfl, a, rfl, ha, fun dx h1 h2 => q dx h1 h2⟩
theorem sci_1 : FnScope ["self", "index"] ["self", "index"] (defScope si_InvalidStep) := ⟨rfl, rfl, rfl, by decide +kernel, rfl, by decide +kernel, by decide +kernel⟩
theorem ok_i1 {fd0 : FuncData} (F : Fun K "__init__" "InvalidStep.__init__" si_InvalidStep (fi 1) fd0) (T : Er K mg c fi pe) : FnOk P w K mg base CX0 1 (fi 1) fd0 ["self", "index"] (spExI (c 1) "index") := by
  refine F.ok sci_1 (fun vs H Q E h => ?_) (fun cdv A outer s H vs Q E hr h => ?_)
  · obtain ⟨a, v, rfl, _⟩ := h
    rfl
  · obtain ⟨a, v, rfl, ha, q⟩ := h
    refine ⟨_, pss_one (ps_ostB T.T1 T.n1_0 (pv 0) (pv 1) rfl), ?_⟩
    exact ⟨_, rfl, _, rfl, a, rfl, ha, fun dx h1 h2 => q dx h1 h2⟩
theorem sci_2 : FnScope ["self", "part", "name"] ["self", "part", "name"] (defScope si_InvalidBook) := ⟨rfl, rfl, rfl, by decide +kernel, rfl, by decide +kernel, by decide +kernel⟩
theorem ok_i2 {fd0 : FuncData} (F : Fun K "__init__" "InvalidBook.__init__" si_InvalidBook (fi 2) fd0) (T : Er K mg c fi pe) : FnOk P w K mg base CX0 1 (fi 2) fd0 ["self", "part", "name"] (spExI2 (c 2) "part" "name") := by
  refine F.ok sci_2 (fun vs H Q E h => ?_) (fun cdv A outer s H vs Q E hr h => ?_)
  · obtain ⟨a, v1, v2, rfl, _⟩ := h
    rfl
  · obtain ⟨a, v1, v2, rfl, ha, q⟩ := h
    refine ⟨_, pss_cons (ps_ostB T.T2 T.n2_0 (pv 0) (pv 1) rfl) (pss_one (ps_ost (pv 0) (pv 2) rfl)), ?_⟩
    exact ⟨_, rfl, _, rfl, a, rfl, ha, fun dx h1 h2 => ⟨_, rfl, _, rfl, a, c 2, rfl, T.o2, T.n2_1, .inr ⟨dx, _, upd_same, by rw [upd_ne h2]; exact upd_same, (by show 1 ≤ 900; decide), q dx h1 h2⟩⟩⟩
theorem sci_3 : FnScope ["self", "value"] ["self", "value"] (defScope si_InvalidState) := ⟨rfl, rfl, rfl, by decide +kernel, rfl, by decide +kernel, by decide +kernel⟩
theorem ok_i3 {fd0 : FuncData} (F : Fun K "__init__" "InvalidState.__init__" si_InvalidState (fi 3) fd0) (T : Er K mg c fi pe) : FnOk P w K mg base CX0 1 (fi 3) fd0 ["self", "value"] (spExI (c 3) "value") := by
  refine F.ok sci_3 (fun vs H Q E h => ?_) (fun cdv A outer s H vs Q E hr h => ?_)
  · obtain ⟨a, v, rfl, _⟩ := h
    rfl
  · obtain ⟨a, v, rfl, ha, q⟩ := h
    refine ⟨_, pss_one (ps_ostB T.T3 T.n3_0 (pv 0) (pv 1) rfl), ?_⟩
    exact ⟨_, rfl, _, rfl, a, rfl, ha, fun dx h1 h2 => q dx h1 h2⟩
theorem sci_4 : FnScope ["self", "move"] ["self", "move"] (defScope si_InvalidMove) := ⟨rfl, rfl, rfl, by decide +kernel, rfl, by decide +kernel, by decide +kernel⟩
theorem ok_i4 {fd0 : FuncData} (F : Fun K "__init__" "InvalidMove.__init__" si_InvalidMove (fi 4) fd0) (T : Er K mg c fi pe) : FnOk P w K mg base CX0 1 (fi 4) fd0 ["self", "move"] (spExI (c 4) "move") := by
  refine F.ok sci_4 (fun vs H Q E h => ?_) (fun cdv A outer s H vs Q E hr h => ?_)
  · obtain ⟨a, v, rfl, _⟩ := h
    rfl
  · obtain ⟨a, v, rfl, ha, q⟩ := h
    refine ⟨_, pss_one (ps_ostB T.T4 T.n4_0 (pv 0) (pv 1) rfl), ?_⟩
    exact ⟨_, rfl, _, rfl, a, rfl, ha, fun dx h1 h2 => q dx h1 h2⟩
theorem sci_5 : FnScope ["self", "line"] ["self", "line"] (defScope si_InvalidText) := ⟨rfl, rfl, rfl, by decide +kernel, rfl, by decide +kernel, by decide +kernel⟩
theorem ok_i5 {fd0 : FuncData} (F : Fun K "__init__" "InvalidText.__init__" si_InvalidText (fi 5) fd0) (T : Er K mg c fi pe) : FnOk P w K mg base CX0 1 (fi 5) fd0 ["self", "line"] (spExI (c 5) "line") := by
  refine F.ok sci_5 (fun vs H Q E h => ?_) (fun cdv A outer s H vs Q E hr h => ?_)
  · obtain ⟨a, v, rfl, _⟩ := h
    rfl
  · obtain ⟨a, v, rfl, ha, q⟩ := h
    refine ⟨_, pss_one (ps_ostB T.T5 T.n5_0 (pv 0) (pv 1) rfl), ?_⟩
    exact ⟨_, rfl, _, rfl, a, rfl, ha, fun dx h1 h2 => q dx h1 h2⟩
theorem sci_6 : FnScope ["self", "value"] ["self", "value"] (defScope si_InvalidOption) := ⟨rfl, rfl, rfl, by decide +kernel, rfl, by decide +kernel, by decide +kernel⟩
theorem ok_i6 {fd0 : FuncData} (F : Fun K "__init__" "InvalidOption.__init__" si_InvalidOption (fi 6) fd0) (T : Er K mg c fi pe) : FnOk P w K mg base CX0 1 (fi 6) fd0 ["self", "value"] (spExI (c 6) "value") := by
  refine F.ok sci_6 (fun vs H Q E h => ?_) (fun cdv A outer s H vs Q E hr h => ?_)
  · obtain ⟨a, v, rfl, _⟩ := h
    rfl
  · obtain ⟨a, v, rfl, ha, q⟩ := h
    refine ⟨_, pss_one (ps_ostB T.T6 T.n6_0 (pv 0) (pv 1) rfl), ?_⟩
    exact ⟨_, rfl, _, rfl, a, rfl, ha, fun dx h1 h2 => q dx h1 h2⟩
theorem sci_7 : FnScope ["self", "word"] ["self", "word"] (defScope si_InvalidCommand) := ⟨rfl, rfl, rfl, by decide +kernel, rfl, by decide +kernel, by decide +kernel⟩
theorem ok_i7 {fd0 : FuncData} (F : Fun K "__init__" "InvalidCommand.__init__" si_InvalidCommand (fi 7) fd0) (T : Er K mg c fi pe) : FnOk P w K mg base CX0 1 (fi 7) fd0 ["self", "word"] (spExI (c 7) "word") := by
  refine F.ok sci_7 (fun vs H Q E h => ?_) (fun cdv A outer s H vs Q E hr h => ?_)
  · obtain ⟨a, v, rfl, _⟩ := h
    rfl
  · obtain ⟨a, v, rfl, ha, q⟩ := h
    refine ⟨_, pss_one (ps_ostB T.T7 T.n7_0 (pv 0) (pv 1) rfl), ?_⟩
    exact ⟨_, rfl, _, rfl, a, rfl, ha, fun dx h1 h2 => q dx h1 h2⟩
theorem sci_8 : FnScope ["self", "word", "run"] ["self", "word", "run"] (defScope si_NotRight) := ⟨rfl, rfl, rfl, by decide +kernel, rfl, by decide +kernel, by decide +kernel⟩
theorem ok_i8 {fd0 : FuncData} (F : Fun K "__init__" "NotRight.__init__" si_NotRight (fi 8) fd0) (T : Er K mg c fi pe) : FnOk P w K mg base CX0 1 (fi 8) fd0 ["self", "word", "run"] (spExI2 (c 8) "word" "run") := by
  refine F.ok sci_8 (fun vs H Q E h => ?_) (fun cdv A outer s H vs Q E hr h => ?_)
  · obtain ⟨a, v1, v2, rfl, _⟩ := h
    rfl
  · obtain ⟨a, v1, v2, rfl, ha, q⟩ := h
    refine ⟨_, pss_cons (ps_ostB T.T8 T.n8_0 (pv 0) (pv 1) rfl) (pss_one (ps_ost (pv 0) (pv 2) rfl)), ?_⟩
    exact ⟨_, rfl, _, rfl, a, rfl, ha, fun dx h1 h2 => ⟨_, rfl, _, rfl, a, c 8, rfl, T.o8, T.n8_1, .inr ⟨dx, _, upd_same, by rw [upd_ne h2]; exact upd_same, (by show 1 ≤ 900; decide), q dx h1 h2⟩⟩⟩
theorem sci_9 : FnScope ["self", "word", "move"] ["self", "word", "move"] (defScope si_Faulty) := ⟨rfl, rfl, rfl, by decide +kernel, rfl, by decide +kernel, by decide +kernel⟩
theorem ok_i9 {fd0 : FuncData} (F : Fun K "__init__" "Faulty.__init__" si_Faulty (fi 9) fd0) (T : Er K mg c fi pe) : FnOk P w K mg base CX0 1 (fi 9) fd0 ["self", "word", "move"] (spExI2 (c 9) "word" "move") := by
  refine F.ok sci_9 (fun vs H Q E h => ?_) (fun cdv A outer s H vs Q E hr h => ?_)
  · obtain ⟨a, v1, v2, rfl, _⟩ := h
    rfl
  · obtain ⟨a, v1, v2, rfl, ha, q⟩ := h
    refine ⟨_, pss_cons (ps_ostB T.T9 T.n9_0 (pv 0) (pv 1) rfl) (pss_one (ps_ost (pv 0) (pv 2) rfl)), ?_⟩
    exact ⟨_, rfl, _, rfl, a, rfl, ha, fun dx h1 h2 => ⟨_, rfl, _, rfl, a, c 9, rfl, T.o9, T.n9_1, .inr ⟨dx, _, upd_same, by rw [upd_ne h2]; exact upd_same, (by show 1 ≤ 900; decide), q dx h1 h2⟩⟩⟩
theorem sci_10 : FnScope ["self", "value"] ["self", "value"] (defScope si_InvalidNumber) := ⟨rfl, rfl, rfl, by decide +kernel, rfl, by decide +kernel, by decide +kernel⟩
theorem ok_i10 {fd0 : FuncData} (F : Fun K "__init__" "InvalidNumber.__init__" si_InvalidNumber (fi 10) fd0) (T : Er K mg c fi pe) : FnOk P w K mg base CX0 1 (fi 10) fd0 ["self", "value"] (spExI (c 10) "value") := by
  refine F.ok sci_10 (fun vs H Q E h => ?_) (fun cdv A outer s H vs Q E hr h => ?_)
  · obtain ⟨a, v, rfl, _⟩ := h
    rfl
  · obtain ⟨a, v, rfl, ha, q⟩ := h
    refine ⟨_, pss_one (ps_ostB T.T10 T.n10_0 (pv 0) (pv 1) rfl), ?_⟩
    exact ⟨_, rfl, _, rfl, a, rfl, ha, fun dx h1 h2 => q dx h1 h2⟩
theorem sci_11 : FnScope ["self", "name"] ["self", "name"] (defScope si_UnknownName) := ⟨rfl, rfl, rfl, by decide +kernel, rfl, by decide +kernel, by decide +kernel⟩
theorem ok_i11 {fd0 : FuncData} (F : Fun K "__init__" "UnknownName.__init__" si_UnknownName (fi 11) fd0) (T : Er K mg c fi pe) : FnOk P w K mg base CX0 1 (fi 11) fd0 ["self", "name"] (spExI (c 11) "name") := by
  refine F.ok sci_11 (fun vs H Q E h => ?_) (fun cdv A outer s H vs Q E hr h => ?_)
  · obtain ⟨a, v, rfl, _⟩ := h
    rfl
  · obtain ⟨a, v, rfl, ha, q⟩ := h
    refine ⟨_, pss_one (ps_ostB T.T11 T.n11_0 (pv 0) (pv 1) rfl), ?_⟩
    exact ⟨_, rfl, _, rfl, a, rfl, ha, fun dx h1 h2 => q dx h1 h2⟩
theorem sci_12 : FnScope ["self", "limit"] ["self", "limit"] (defScope si_LimitExceeded) := ⟨rfl, rfl, rfl, by decide +kernel, rfl, by decide +kernel, by decide +kernel⟩
theorem ok_i12 {fd0 : FuncData} (F : Fun K "__init__" "LimitExceeded.__init__" si_LimitExceeded (fi 12) fd0) (T : Er K mg c fi pe) : FnOk P w K mg base CX0 1 (fi 12) fd0 ["self", "limit"] (spExI (c 12) "limit") := by
  refine F.ok sci_12 (fun vs H Q E h => ?_) (fun cdv A outer s H vs Q E hr h => ?_)
  · obtain ⟨a, v, rfl, _⟩ := h
    rfl
  · obtain ⟨a, v, rfl, ha, q⟩ := h
    refine ⟨_, pss_one (ps_ostB T.T12 T.n12_0 (pv 0) (pv 1) rfl), ?_⟩
    exact ⟨_, rfl, _, rfl, a, rfl, ha, fun dx h1 h2 => q dx h1 h2⟩
theorem sci_13 : FnScope ["self", "name"] ["self", "name"] (defScope si_NothingToUndo) := ⟨rfl, rfl, rfl, by decide +kernel, rfl, by decide +kernel, by decide +kernel⟩
theorem ok_i13 {fd0 : FuncData} (F : Fun K "__init__" "NothingToUndo.__init__" si_NothingToUndo (fi 13) fd0) (T : Er K mg c fi pe) : FnOk P w K mg base CX0 1 (fi 13) fd0 ["self", "name"] (spExI (c 13) "name") := by
  refine F.ok sci_13 (fun vs H Q E h => ?_) (fun cdv A outer s H vs Q E hr h => ?_)
  · obtain ⟨a, v, rfl, _⟩ := h
    rfl
  · obtain ⟨a, v, rfl, ha, q⟩ := h
    refine ⟨_, pss_one (ps_ostB T.T13 T.n13_0 (pv 0) (pv 1) rfl), ?_⟩
    exact ⟨_, rfl, _, rfl, a, rfl, ha, fun dx h1 h2 => q dx h1 h2⟩
/-- the exceptions that are made, in their order -/
def MadeOk (c : Nat → Addr) (H : Hp) (as : List V) (x y : V) : Prop := as.length = 19 ∧ ∀ i j : Nat, clsIx[i]? = some j → ∃ a, as[i]? = some (V.ref a) ∧ ExV (c j) H a (fldOf x y j)
theorem MadeOk.same {c : Nat → Addr} {H H' : Hp} {as : List V} {x y : V} (h : MadeOk c H as x y) (s : Same H H') : MadeOk c H' as x y := ⟨h.1, fun i j e => by
  obtain ⟨a, h1, h2⟩ := h.2 i j e
  exact ⟨a, h1, h2.same s⟩⟩
/-- one more -/
def Pref (c : Nat → Addr) (H : Hp) (as : List V) (x y : V) (n : Nat) : Prop := as.length = n ∧ ∀ i j : Nat, i < n → clsIx[i]? = some j → ∃ a, as[i]? = some (V.ref a) ∧ ExV (c j) H a (fldOf x y j)
theorem Pref.nil {c : Nat → Addr} {H : Hp} {x y : V} : Pref c H [] x y 0 := ⟨rfl, fun i j h => absurd h (Nat.not_lt_zero i)⟩
theorem Pref.same {c : Nat → Addr} {H H' : Hp} {as : List V} {x y : V} {n : Nat} (h : Pref c H as x y n) (s : Same H H') : Pref c H' as x y n := ⟨h.1, fun i j l e => by
  obtain ⟨a, h1, h2⟩ := h.2 i j l e
  exact ⟨a, h1, h2.same s⟩⟩
theorem Pref.snoc {c : Nat → Addr} {H H' : Hp} {as : List V} {x y : V} {n j : Nat} {a : Addr} (h : Pref c H as x y n) (s : Same H H') (e : clsIx[n]? = some j) (k : ExV (c j) H' a (fldOf x y j)) : Pref c H' (as ++ [V.ref a]) x y (n + 1) := by
  refine ⟨by rw [List.length_append, List.length_singleton, h.1], fun i j' l e' => ?_⟩
  by_cases hi : i < n
  · obtain ⟨b, h1, h2⟩ := h.2 i j' hi e'
    exact ⟨b, by rw [List.getElem?_append_left (by rw [h.1]; exact hi)]; exact h1, h2.same s⟩
  · have : i = n := by omega
    subst this
    rw [e] at e'
    cases e'
    exact ⟨a, by rw [List.getElem?_append_right (by rw [h.1]; exact Nat.le_refl _), h.1, Nat.sub_self]; rfl, k⟩
def spMade (K : PySem.W.Frag) (c : Nat → Addr) : Sp := fun vs H Q _ => ∃ x y : V, vs = [x, y] ∧ ∀ (H' : Hp) (p : Addr) (as : List V), Same H H' → H' p = some (.lst as) → MadeOk c H' as x y → Q (.ref p) H'
theorem sc_l_made : FnScope ["_law_thing", "_law_other", "_law_found"] ["_law_thing", "_law_other"] (defScope s_l_made) := ⟨rfl, rfl, rfl, by decide +kernel, rfl, by decide +kernel, by decide +kernel⟩
theorem ok_l_made {f : Addr} {fd0 : FuncData} (F : Fun K "_law_made" "_law_made" s_l_made f fd0) (T : Er K mg c fi pe) (J : Ini P w K mg base c fi fd) : FnOk P w K mg base CX0 3 f fd0 ["_law_thing", "_law_other"] (spMade K c) := by
  refine F.ok sc_l_made (fun vs H Q E h => ?_) (fun cdv A outer s H vs Q E hr h => ?_)
  · obtain ⟨x, y, rfl, _⟩ := h
    rfl
  · obtain ⟨x, y, rfl, q⟩ := h
    have hr2 : Room 2 _ := hr
    refine ⟨_, (pss_cons (ps_set (i := 2) sc_l_made.nd rfl (.inl rfl) (pe_lst (pa_cons (pe_mkE T.T0 J.G0 hr2 J.b0 pass0 (by rfl) (pa_cons (pv 0) pa_nil)) (pa_cons (pe_mkEk (ks := ["number"]) T.T0 J.G0 hr2 J.k0 pass0 (by rfl) (pk_cons (pv 0) pk_nil) rfl) (pa_cons (pe_mkE T.T1 J.G1 hr2 J.b1 pass0 (by rfl) (pa_cons (pv 0) pa_nil)) (pa_cons (pe_mkEk (ks := ["index"]) T.T1 J.G1 hr2 J.k1 pass0 (by rfl) (pk_cons (pv 0) pk_nil) rfl) pa_nil)))))) 
        (pss_cons (ps_set (i := 2) sc_l_made.nd rfl (.inl rfl) (pe_op op_cat (pv 2) (pe_lst (pa_cons (pe_mkE T.T2 J.G2 hr2 J.b2 pass0 (by rfl) (pa_cons (pv 0) (pa_cons (pv 1) pa_nil))) (pa_cons (pe_mkEk (ks := ["part", "name"]) T.T2 J.G2 hr2 J.k2 pass0 (by rfl) (pk_cons (pv 0) (pk_cons (pv 1) pk_nil)) rfl) (pa_cons (pe_mkEk (ks := ["value"]) T.T3 J.G3 hr2 J.k3 pass0 (by rfl) (pk_cons (pv 0) pk_nil) rfl) pa_nil)))))) 
        (pss_cons (ps_set (i := 2) sc_l_made.nd rfl (.inl rfl) (pe_op op_cat (pv 2) (pe_lst (pa_cons (pe_mkEk (ks := ["move"]) T.T4 J.G4 hr2 J.k4 pass0 (by rfl) (pk_cons (pv 0) pk_nil) rfl) (pa_cons (pe_mkEk (ks := ["line"]) T.T5 J.G5 hr2 J.k5 pass0 (by rfl) (pk_cons (pv 0) pk_nil) rfl) (pa_cons (pe_mkEk (ks := ["value"]) T.T6 J.G6 hr2 J.k6 pass0 (by rfl) (pk_cons (pv 0) pk_nil) rfl) pa_nil)))))) 
        (pss_cons (ps_set (i := 2) sc_l_made.nd rfl (.inl rfl) (pe_op op_cat (pv 2) (pe_lst (pa_cons (pe_mkEk (ks := ["word"]) T.T7 J.G7 hr2 J.k7 pass0 (by rfl) (pk_cons (pv 0) pk_nil) rfl) (pa_cons (pe_mkE T.T7 J.G7 hr2 J.b7 pass0 (by rfl) (pa_cons (pv 0) pa_nil)) pa_nil))))) 
        (pss_cons (ps_set (i := 2) sc_l_made.nd rfl (.inl rfl) (pe_op op_cat (pv 2) (pe_lst (pa_cons (pe_mkE T.T8 J.G8 hr2 J.b8 pass0 (by rfl) (pa_cons (pv 0) (pa_cons (pv 1) pa_nil))) (pa_cons (pe_mkEk (ks := ["word", "run"]) T.T8 J.G8 hr2 J.k8 pass0 (by rfl) (pk_cons (pv 0) (pk_cons (pv 1) pk_nil)) rfl) (pa_cons (pe_mkEk (ks := ["word", "move"]) T.T9 J.G9 hr2 J.k9 pass0 (by rfl) (pk_cons (pv 0) (pk_cons (pv 1) pk_nil)) rfl) pa_nil)))))) 
        (pss_cons (ps_set (i := 2) sc_l_made.nd rfl (.inl rfl) (pe_op op_cat (pv 2) (pe_lst (pa_cons (pe_mkEk (ks := ["value"]) T.T10 J.G10 hr2 J.k10 pass0 (by rfl) (pk_cons (pv 0) pk_nil) rfl) (pa_cons (pe_mkEk (ks := ["name"]) T.T11 J.G11 hr2 J.k11 pass0 (by rfl) (pk_cons (pv 0) pk_nil) rfl) (pa_cons (pe_mkEk (ks := ["limit"]) T.T12 J.G12 hr2 J.k12 pass0 (by rfl) (pk_cons (pv 0) pk_nil) rfl) pa_nil)))))) 
        (pss_one (ps_ret (pe_op op_cat (pv 2) (pe_lst (pa_cons (pe_mkEk (ks := ["name"]) T.T13 J.G13 hr2 J.k13 pass0 (by rfl) (pk_cons (pv 0) pk_nil) rfl) pa_nil))))))))))), ?_⟩
    have s0 := Same.refl H
    have m0 : Pref c H [] x y 0 := Pref.nil
    refine ⟨_, rfl, (by show 1 ≤ 1000; decide), mk1 fun a0 G0 t0 x0 => ?_⟩
    replace m0 := m0.snoc (j := 0) t0 rfl x0
    replace s0 := s0.trans t0
    refine ⟨_, rfl, (by show 1 ≤ 1000; decide), mk1 fun a1 G1 t1 x1 => ?_⟩
    replace m0 := m0.snoc (j := 0) t1 rfl x1
    replace s0 := s0.trans t1
    refine ⟨_, rfl, (by show 1 ≤ 1000; decide), mk1 fun a2 G2 t2 x2 => ?_⟩
    replace m0 := m0.snoc (j := 1) t2 rfl x2
    replace s0 := s0.trans t2
    refine ⟨_, rfl, (by show 1 ≤ 1000; decide), mk1 fun a3 G3 t3 x3 => ?_⟩
    replace m0 := m0.snoc (j := 1) t3 rfl x3
    replace s0 := s0.trans t3
    refine ⟨(by show 4 ≤ sizeLine; decide), fun p0 n0 => ?_⟩
    have t := same_upd (o := .lst [V.ref a0, V.ref a1, V.ref a2, V.ref a3]) n0
    replace m0 := m0.same t
    replace s0 := s0.trans t
    have el : _ = some (HO.lst _) := upd_same (H := G3) (a := p0) (o := .lst [V.ref a0, V.ref a1, V.ref a2, V.ref a3])
    refine ⟨_, rfl, ?_⟩
    refine ⟨_, rfl, _, rfl, (by show 2 ≤ 1000; decide), mk2 fun a4 G4 t4 x4 => ?_⟩
    replace m0 := m0.snoc (j := 2) t4 rfl x4
    replace s0 := s0.trans t4
    replace el := t4 _ _ el
    refine ⟨_, rfl, _, rfl, (by show 2 ≤ 1000; decide), mk2 fun a5 G5 t5 x5 => ?_⟩
    replace m0 := m0.snoc (j := 2) t5 rfl x5
    replace s0 := s0.trans t5
    replace el := t5 _ _ el
    refine ⟨_, rfl, (by show 1 ≤ 1000; decide), mk1 fun a6 G6 t6 x6 => ?_⟩
    replace m0 := m0.snoc (j := 3) t6 rfl x6
    replace s0 := s0.trans t6
    replace el := t6 _ _ el
    refine ⟨(by show 3 ≤ sizeLine; decide), fun p1 n1 => ?_⟩
    have t := same_upd (o := .lst [V.ref a4, V.ref a5, V.ref a6]) n1
    replace m0 := m0.same t
    replace s0 := s0.trans t
    replace el := t _ _ el
    refine ⟨_, _, _, _, rfl, rfl, el, upd_same, (by show 7 ≤ sizeLine; decide), fun q1 r1 => ?_⟩
    have t := same_upd (o := .lst ([V.ref a0, V.ref a1, V.ref a2, V.ref a3] ++ [V.ref a4, V.ref a5, V.ref a6])) r1
    replace m0 := m0.same t
    replace s0 := s0.trans t
    replace el := upd_same (H := upd G6 p1 (.lst [V.ref a4, V.ref a5, V.ref a6])) (a := q1) (o := .lst ([V.ref a0, V.ref a1, V.ref a2, V.ref a3] ++ [V.ref a4, V.ref a5, V.ref a6]))
    refine ⟨_, rfl, ?_⟩
    refine ⟨_, rfl, (by show 1 ≤ 1000; decide), mk1 fun a7 G7 t7 x7 => ?_⟩
    replace m0 := m0.snoc (j := 4) t7 rfl x7
    replace s0 := s0.trans t7
    replace el := t7 _ _ el
    refine ⟨_, rfl, (by show 1 ≤ 1000; decide), mk1 fun a8 G8 t8 x8 => ?_⟩
    replace m0 := m0.snoc (j := 5) t8 rfl x8
    replace s0 := s0.trans t8
    replace el := t8 _ _ el
    refine ⟨_, rfl, (by show 1 ≤ 1000; decide), mk1 fun a9 G9 t9 x9 => ?_⟩
    replace m0 := m0.snoc (j := 6) t9 rfl x9
    replace s0 := s0.trans t9
    replace el := t9 _ _ el
    refine ⟨(by show 3 ≤ sizeLine; decide), fun p2 n2 => ?_⟩
    have t := same_upd (o := .lst [V.ref a7, V.ref a8, V.ref a9]) n2
    replace m0 := m0.same t
    replace s0 := s0.trans t
    replace el := t _ _ el
    refine ⟨_, _, _, _, rfl, rfl, el, upd_same, (by show 10 ≤ sizeLine; decide), fun q2 r2 => ?_⟩
    have t := same_upd (o := .lst (([V.ref a0, V.ref a1, V.ref a2, V.ref a3] ++ [V.ref a4, V.ref a5, V.ref a6]) ++ [V.ref a7, V.ref a8, V.ref a9])) r2
    replace m0 := m0.same t
    replace s0 := s0.trans t
    replace el := upd_same (H := upd G9 p2 (.lst [V.ref a7, V.ref a8, V.ref a9])) (a := q2) (o := .lst (([V.ref a0, V.ref a1, V.ref a2, V.ref a3] ++ [V.ref a4, V.ref a5, V.ref a6]) ++ [V.ref a7, V.ref a8, V.ref a9]))
    refine ⟨_, rfl, ?_⟩
    refine ⟨_, rfl, (by show 1 ≤ 1000; decide), mk1 fun a10 G10 t10 x10 => ?_⟩
    replace m0 := m0.snoc (j := 7) t10 rfl x10
    replace s0 := s0.trans t10
    replace el := t10 _ _ el
    refine ⟨_, rfl, (by show 1 ≤ 1000; decide), mk1 fun a11 G11 t11 x11 => ?_⟩
    replace m0 := m0.snoc (j := 7) t11 rfl x11
    replace s0 := s0.trans t11
    replace el := t11 _ _ el
    refine ⟨(by show 2 ≤ sizeLine; decide), fun p3 n3 => ?_⟩
    have t := same_upd (o := .lst [V.ref a10, V.ref a11]) n3
    replace m0 := m0.same t
    replace s0 := s0.trans t
    replace el := t _ _ el
    refine ⟨_, _, _, _, rfl, rfl, el, upd_same, (by show 12 ≤ sizeLine; decide), fun q3 r3 => ?_⟩
    have t := same_upd (o := .lst ((([V.ref a0, V.ref a1, V.ref a2, V.ref a3] ++ [V.ref a4, V.ref a5, V.ref a6]) ++ [V.ref a7, V.ref a8, V.ref a9]) ++ [V.ref a10, V.ref a11])) r3
    replace m0 := m0.same t
    replace s0 := s0.trans t
    replace el := upd_same (H := upd G11 p3 (.lst [V.ref a10, V.ref a11])) (a := q3) (o := .lst ((([V.ref a0, V.ref a1, V.ref a2, V.ref a3] ++ [V.ref a4, V.ref a5, V.ref a6]) ++ [V.ref a7, V.ref a8, V.ref a9]) ++ [V.ref a10, V.ref a11]))
    refine ⟨_, rfl, ?_⟩
    refine ⟨_, rfl, _, rfl, (by show 2 ≤ 1000; decide), mk2 fun a12 G12 t12 x12 => ?_⟩
    replace m0 := m0.snoc (j := 8) t12 rfl x12
    replace s0 := s0.trans t12
    replace el := t12 _ _ el
    refine ⟨_, rfl, _, rfl, (by show 2 ≤ 1000; decide), mk2 fun a13 G13 t13 x13 => ?_⟩
    replace m0 := m0.snoc (j := 8) t13 rfl x13
    replace s0 := s0.trans t13
    replace el := t13 _ _ el
    refine ⟨_, rfl, _, rfl, (by show 2 ≤ 1000; decide), mk2 fun a14 G14 t14 x14 => ?_⟩
    replace m0 := m0.snoc (j := 9) t14 rfl x14
    replace s0 := s0.trans t14
    replace el := t14 _ _ el
    refine ⟨(by show 3 ≤ sizeLine; decide), fun p4 n4 => ?_⟩
    have t := same_upd (o := .lst [V.ref a12, V.ref a13, V.ref a14]) n4
    replace m0 := m0.same t
    replace s0 := s0.trans t
    replace el := t _ _ el
    refine ⟨_, _, _, _, rfl, rfl, el, upd_same, (by show 15 ≤ sizeLine; decide), fun q4 r4 => ?_⟩
    have t := same_upd (o := .lst (((([V.ref a0, V.ref a1, V.ref a2, V.ref a3] ++ [V.ref a4, V.ref a5, V.ref a6]) ++ [V.ref a7, V.ref a8, V.ref a9]) ++ [V.ref a10, V.ref a11]) ++ [V.ref a12, V.ref a13, V.ref a14])) r4
    replace m0 := m0.same t
    replace s0 := s0.trans t
    replace el := upd_same (H := upd G14 p4 (.lst [V.ref a12, V.ref a13, V.ref a14])) (a := q4) (o := .lst (((([V.ref a0, V.ref a1, V.ref a2, V.ref a3] ++ [V.ref a4, V.ref a5, V.ref a6]) ++ [V.ref a7, V.ref a8, V.ref a9]) ++ [V.ref a10, V.ref a11]) ++ [V.ref a12, V.ref a13, V.ref a14]))
    refine ⟨_, rfl, ?_⟩
    refine ⟨_, rfl, (by show 1 ≤ 1000; decide), mk1 fun a15 G15 t15 x15 => ?_⟩
    replace m0 := m0.snoc (j := 10) t15 rfl x15
    replace s0 := s0.trans t15
    replace el := t15 _ _ el
    refine ⟨_, rfl, (by show 1 ≤ 1000; decide), mk1 fun a16 G16 t16 x16 => ?_⟩
    replace m0 := m0.snoc (j := 11) t16 rfl x16
    replace s0 := s0.trans t16
    replace el := t16 _ _ el
    refine ⟨_, rfl, (by show 1 ≤ 1000; decide), mk1 fun a17 G17 t17 x17 => ?_⟩
    replace m0 := m0.snoc (j := 12) t17 rfl x17
    replace s0 := s0.trans t17
    replace el := t17 _ _ el
    refine ⟨(by show 3 ≤ sizeLine; decide), fun p5 n5 => ?_⟩
    have t := same_upd (o := .lst [V.ref a15, V.ref a16, V.ref a17]) n5
    replace m0 := m0.same t
    replace s0 := s0.trans t
    replace el := t _ _ el
    refine ⟨_, _, _, _, rfl, rfl, el, upd_same, (by show 18 ≤ sizeLine; decide), fun q5 r5 => ?_⟩
    have t := same_upd (o := .lst ((((([V.ref a0, V.ref a1, V.ref a2, V.ref a3] ++ [V.ref a4, V.ref a5, V.ref a6]) ++ [V.ref a7, V.ref a8, V.ref a9]) ++ [V.ref a10, V.ref a11]) ++ [V.ref a12, V.ref a13, V.ref a14]) ++ [V.ref a15, V.ref a16, V.ref a17])) r5
    replace m0 := m0.same t
    replace s0 := s0.trans t
    replace el := upd_same (H := upd G17 p5 (.lst [V.ref a15, V.ref a16, V.ref a17])) (a := q5) (o := .lst ((((([V.ref a0, V.ref a1, V.ref a2, V.ref a3] ++ [V.ref a4, V.ref a5, V.ref a6]) ++ [V.ref a7, V.ref a8, V.ref a9]) ++ [V.ref a10, V.ref a11]) ++ [V.ref a12, V.ref a13, V.ref a14]) ++ [V.ref a15, V.ref a16, V.ref a17]))
    refine ⟨_, rfl, ?_⟩
    refine ⟨_, rfl, (by show 1 ≤ 1000; decide), mk1 fun a18 G18 t18 x18 => ?_⟩
    replace m0 := m0.snoc (j := 13) t18 rfl x18
    replace s0 := s0.trans t18
    replace el := t18 _ _ el
    refine ⟨(by show 1 ≤ sizeLine; decide), fun p6 n6 => ?_⟩
    have t := same_upd (o := .lst [V.ref a18]) n6
    replace m0 := m0.same t
    replace s0 := s0.trans t
    replace el := t _ _ el
    refine ⟨_, _, _, _, rfl, rfl, el, upd_same, (by show 19 ≤ sizeLine; decide), fun q6 r6 => ?_⟩
    have t := same_upd (o := .lst (((((([V.ref a0, V.ref a1, V.ref a2, V.ref a3] ++ [V.ref a4, V.ref a5, V.ref a6]) ++ [V.ref a7, V.ref a8, V.ref a9]) ++ [V.ref a10, V.ref a11]) ++ [V.ref a12, V.ref a13, V.ref a14]) ++ [V.ref a15, V.ref a16, V.ref a17]) ++ [V.ref a18])) r6
    exact q _ _ _ (s0.trans t) upd_same ⟨rfl, fun i j e => (m0.same t).2 i j (by simpa using (List.getElem?_eq_some_iff.mp e).1) e⟩
end
end K01

namespace K01
open PySem PySem.Spec PyProof.Rows L2 TL GG OO
theorem roomU {k : Nat} {A : Around} (r : Room k A) : A.units + 65 < cLine := Nat.lt_of_le_of_lt (by omega : A.units + 65 ≤ A.units + 16 * k + 200) r.un
theorem iteB {b c : Bool} {A B : Prop} (e : b = c) (h : if c = true then A else B) : if b = true then A else B := by
  rw [e]
  exact h
theorem lkA (f : Str) (v : V) (r : List (Str × V)) : ((f, v) :: r).lookup f = some v := by simp [List.lookup]
theorem lkB {f g : Str} (v u : V) (h : (f == g) = false) : ([(g, u), (f, v)] : List (Str × V)).lookup f = some v := by simp [List.lookup, h]
theorem made_cases {c : Nat → Addr} {H : Hp} {as : List V} {x y : V} (h : MadeOk c H as x y) : ∃ a0 a1 a2 a3 a4 a5 a6 a7 a8 a9 a10 a11 a12 a13 a14 a15 a16 a17 a18 : Addr, as = [V.ref a0, V.ref a1, V.ref a2, V.ref a3, V.ref a4, V.ref a5, V.ref a6, V.ref a7, V.ref a8, V.ref a9, V.ref a10, V.ref a11, V.ref a12, V.ref a13, V.ref a14, V.ref a15, V.ref a16, V.ref a17, V.ref a18] ∧ ExV (c 0) H a0 (fldOf x y 0) ∧ ExV (c 0) H a1 (fldOf x y 0) ∧ ExV (c 1) H a2 (fldOf x y 1) ∧ ExV (c 1) H a3 (fldOf x y 1) ∧ ExV (c 2) H a4 (fldOf x y 2) ∧ ExV (c 2) H a5 (fldOf x y 2) ∧ ExV (c 3) H a6 (fldOf x y 3) ∧ ExV (c 4) H a7 (fldOf x y 4) ∧ ExV (c 5) H a8 (fldOf x y 5) ∧ ExV (c 6) H a9 (fldOf x y 6) ∧ ExV (c 7) H a10 (fldOf x y 7) ∧ ExV (c 7) H a11 (fldOf x y 7) ∧ ExV (c 8) H a12 (fldOf x y 8) ∧ ExV (c 8) H a13 (fldOf x y 8) ∧ ExV (c 9) H a14 (fldOf x y 9) ∧ ExV (c 10) H a15 (fldOf x y 10) ∧ ExV (c 11) H a16 (fldOf x y 11) ∧ ExV (c 12) H a17 (fldOf x y 12) ∧ ExV (c 13) H a18 (fldOf x y 13) := by
  obtain ⟨hl, h⟩ := h
  obtain ⟨a0, g0, e0⟩ := h 0 0 rfl
  obtain ⟨a1, g1, e1⟩ := h 1 0 rfl
  obtain ⟨a2, g2, e2⟩ := h 2 1 rfl
  obtain ⟨a3, g3, e3⟩ := h 3 1 rfl
  obtain ⟨a4, g4, e4⟩ := h 4 2 rfl
  obtain ⟨a5, g5, e5⟩ := h 5 2 rfl
  obtain ⟨a6, g6, e6⟩ := h 6 3 rfl
  obtain ⟨a7, g7, e7⟩ := h 7 4 rfl
  obtain ⟨a8, g8, e8⟩ := h 8 5 rfl
  obtain ⟨a9, g9, e9⟩ := h 9 6 rfl
  obtain ⟨a10, g10, e10⟩ := h 10 7 rfl
  obtain ⟨a11, g11, e11⟩ := h 11 7 rfl
  obtain ⟨a12, g12, e12⟩ := h 12 8 rfl
  obtain ⟨a13, g13, e13⟩ := h 13 8 rfl
  obtain ⟨a14, g14, e14⟩ := h 14 9 rfl
  obtain ⟨a15, g15, e15⟩ := h 15 10 rfl
  obtain ⟨a16, g16, e16⟩ := h 16 11 rfl
  obtain ⟨a17, g17, e17⟩ := h 17 12 rfl
  obtain ⟨a18, g18, e18⟩ := h 18 13 rfl
  refine ⟨a0, a1, a2, a3, a4, a5, a6, a7, a8, a9, a10, a11, a12, a13, a14, a15, a16, a17, a18, ?_, e0, e1, e2, e3, e4, e5, e6, e7, e8, e9, e10, e11, e12, e13, e14, e15, e16, e17, e18⟩
  refine List.ext_getElem? fun i => ?_
  by_cases hi : i < 19
  · match i, hi with
    | 0, _ => exact g0
    | 1, _ => exact g1
    | 2, _ => exact g2
    | 3, _ => exact g3
    | 4, _ => exact g4
    | 5, _ => exact g5
    | 6, _ => exact g6
    | 7, _ => exact g7
    | 8, _ => exact g8
    | 9, _ => exact g9
    | 10, _ => exact g10
    | 11, _ => exact g11
    | 12, _ => exact g12
    | 13, _ => exact g13
    | 14, _ => exact g14
    | 15, _ => exact g15
    | 16, _ => exact g16
    | 17, _ => exact g17
    | 18, _ => exact g18
    | n + 19, h => exact absurd h (by omega)
  · rw [List.getElem?_eq_none (by omega), List.getElem?_eq_none (by simp; omega)]
section
variable {P : Program} {w : World} {K : PySem.W.Frag} {mg : Str → Option Value} {base : Heap} {c fi : Nat → Addr} {fd : Nat → FuncData} {pe : Addr}
/-- a thing whose text is short enough -/
structure ThOk (K : PySem.W.Frag) (H : Hp) (v : V) (d : PyData) : Prop where
  th : ThD K H v d
  sh : d.showable = true
  dp : d.depth ≤ 50
  z19 : (listText (List.replicate (18 + 1) d.shown)).length ≤ sizeLine
  z5 : (listText (List.replicate (4 + 1) d.shown)).length ≤ sizeLine
theorem ThD.same {K : PySem.W.Frag} {H H' : Hp} {v : V} {d : PyData} (h : ThD K H v d) (s : Same H H') : ThD K H' v d := by
  cases h with
  | dat hd => exact .dat (dp_same s _ _ hd)
  | dic hq => exact .dic (s _ _ hq)
def spHeld (K : PySem.W.Frag) (c : Nat → Addr) : Sp := fun vs H Q _ => ∃ (p : Addr) (as : List V) (x y : V) (d e : PyData), vs = [.ref p, x, y] ∧ H p = some (.lst as) ∧ MadeOk c H as x y ∧ ThOk K H x d ∧ ThOk K H y e ∧ ∀ H', Same H H' → Q (.bl true) H'
theorem sc_l_held : FnScope ["_law_made_here", "_law_thing", "_law_other", "_law_found", "_law_more"] ["_law_made_here", "_law_thing", "_law_other"] (defScope s_l_held) := ⟨rfl, rfl, rfl, by decide +kernel, rfl, by decide +kernel, by decide +kernel⟩
theorem ok_l_held {f : Addr} {fd0 : FuncData} (F : Fun K "_law_held" "_law_held" s_l_held f fd0) (B : Blt K mg) (T : Er K mg c fi pe) : FnG P w K mg base CX0 1 f fd0 ["_law_made_here", "_law_thing", "_law_other"] (spHeld K c) := by
  refine Fun.okG F sc_l_held (fun vs H Q E h => ?_) (fun cdv A outer s H vs Q E hr gd h => ?_)
  · obtain ⟨p, as, x, y, d, e, rfl, _⟩ := h
    rfl
  · obtain ⟨p, as, x, y, d, e, rfl, hp, hm, hx, hy, q⟩ := h
    obtain ⟨a0, a1, a2, a3, a4, a5, a6, a7, a8, a9, a10, a11, a12, a13, a14, a15, a16, a17, a18, rfl, e0, e1, e2, e3, e4, e5, e6, e7, e8, e9, e10, e11, e12, e13, e14, e15, e16, e17, e18⟩ := made_cases hm
    refine ⟨_, (pss_cons (ps_set (i := 3) sc_l_held.nd rfl (.inl rfl) (pe_lst (pa_cons (pe_getE T.T0 T.n0_0 (pe_ix ix_list (pv 0) pe_int (fun _ _ => rfl))) (pa_cons (pe_getE T.T0 T.n0_0 (pe_ix ix_list (pv 0) pe_int (fun _ _ => rfl))) (pa_cons (pe_getE T.T1 T.n1_0 (pe_ix ix_list (pv 0) pe_int (fun _ _ => rfl))) (pa_cons (pe_getE T.T1 T.n1_0 (pe_ix ix_list (pv 0) pe_int (fun _ _ => rfl))) (pa_cons (pe_getE T.T2 T.n2_0 (pe_ix ix_list (pv 0) pe_int (fun _ _ => rfl))) (pa_cons (pe_getE T.T2 T.n2_0 (pe_ix ix_list (pv 0) pe_int (fun _ _ => rfl))) pa_nil)))))))) 
        (pss_cons (ps_set (i := 3) sc_l_held.nd rfl (.inl rfl) (pe_op op_cat (pv 3) (pe_lst (pa_cons (pe_getE T.T3 T.n3_0 (pe_ix ix_list (pv 0) pe_int (fun _ _ => rfl))) (pa_cons (pe_getE T.T4 T.n4_0 (pe_ix ix_list (pv 0) pe_int (fun _ _ => rfl))) (pa_cons (pe_getE T.T5 T.n5_0 (pe_ix ix_list (pv 0) pe_int (fun _ _ => rfl))) (pa_cons (pe_getE T.T6 T.n6_0 (pe_ix ix_list (pv 0) pe_int (fun _ _ => rfl))) (pa_cons (pe_getE T.T7 T.n7_0 (pe_ix ix_list (pv 0) pe_int (fun _ _ => rfl))) (pa_cons (pe_getE T.T7 T.n7_0 (pe_ix ix_list (pv 0) pe_int (fun _ _ => rfl))) pa_nil))))))))) 
        (pss_cons (ps_set (i := 3) sc_l_held.nd rfl (.inl rfl) (pe_op op_cat (pv 3) (pe_lst (pa_cons (pe_getE T.T8 T.n8_0 (pe_ix ix_list (pv 0) pe_int (fun _ _ => rfl))) (pa_cons (pe_getE T.T8 T.n8_0 (pe_ix ix_list (pv 0) pe_int (fun _ _ => rfl))) (pa_cons (pe_getE T.T9 T.n9_0 (pe_ix ix_list (pv 0) pe_int (fun _ _ => rfl))) (pa_cons (pe_getE T.T10 T.n10_0 (pe_ix ix_list (pv 0) pe_int (fun _ _ => rfl))) (pa_cons (pe_getE T.T11 T.n11_0 (pe_ix ix_list (pv 0) pe_int (fun _ _ => rfl))) (pa_cons (pe_getE T.T12 T.n12_0 (pe_ix ix_list (pv 0) pe_int (fun _ _ => rfl))) pa_nil))))))))) 
        (pss_cons (ps_expr (pe_bm PySem.F.plainAttrs_list PySem.F.slot_list_append PySem.F.type_list_append mt_append (pv 3) (pa_cons (pe_getE T.T13 T.n13_0 (pe_ix ix_list (pv 0) pe_int (fun _ _ => rfl))) pa_nil))) 
        (pss_cons (ps_set (i := 4) sc_l_held.nd rfl (.inl rfl) (pe_lst (pa_cons (pe_getE T.T2 T.n2_1 (pe_ix ix_list (pv 0) pe_int (fun _ _ => rfl))) (pa_cons (pe_getE T.T2 T.n2_1 (pe_ix ix_list (pv 0) pe_int (fun _ _ => rfl))) (pa_cons (pe_getE T.T8 T.n8_1 (pe_ix ix_list (pv 0) pe_int (fun _ _ => rfl))) (pa_cons (pe_getE T.T8 T.n8_1 (pe_ix ix_list (pv 0) pe_int (fun _ _ => rfl))) (pa_cons (pe_getE T.T9 T.n9_1 (pe_ix ix_list (pv 0) pe_int (fun _ _ => rfl))) pa_nil))))))) 
        (pss_one (ps_ret (pe_and (pe_cmpR op_eq (pe_callB (call_reprR gd (roomU hr)) (by rfl) B.m_repr (by decide +kernel) (pa_cons (pv 3) pa_nil)) (pe_callB (call_reprR gd (roomU hr)) (by rfl) B.m_repr (by decide +kernel) (pa_cons (pe_op op_rep (pe_lst (pa_cons (pv 1) pa_nil)) pe_int) pa_nil)) (nomark _)) (pe_one (pe_cmpR op_eq (pe_callB (call_reprR gd (roomU hr)) (by rfl) B.m_repr (by decide +kernel) (pa_cons (pv 4) pa_nil)) (pe_callB (call_reprR gd (roomU hr)) (by rfl) B.m_repr (by decide +kernel) (pa_cons (pe_op op_rep (pe_lst (pa_cons (pv 2) pa_nil)) pe_int) pa_nil)) (nomark _))))))))))), ?_⟩
    have s0 := Same.refl H
    refine ⟨_, rfl, p, _, _, _, rfl, rfl, .inl (.inl (s0 _ _ hp)), atI_nat (j := 0) rfl, a0, _, x, rfl, e0.same s0, (lkA _ _ _), ?_⟩
    refine ⟨_, rfl, p, _, _, _, rfl, rfl, .inl (.inl (s0 _ _ hp)), atI_nat (j := 1) rfl, a1, _, x, rfl, e1.same s0, (lkA _ _ _), ?_⟩
    refine ⟨_, rfl, p, _, _, _, rfl, rfl, .inl (.inl (s0 _ _ hp)), atI_nat (j := 2) rfl, a2, _, x, rfl, e2.same s0, (lkA _ _ _), ?_⟩
    refine ⟨_, rfl, p, _, _, _, rfl, rfl, .inl (.inl (s0 _ _ hp)), atI_nat (j := 3) rfl, a3, _, x, rfl, e3.same s0, (lkA _ _ _), ?_⟩
    refine ⟨_, rfl, p, _, _, _, rfl, rfl, .inl (.inl (s0 _ _ hp)), atI_nat (j := 4) rfl, a4, _, x, rfl, e4.same s0, (lkB _ _ (by decide)), ?_⟩
    refine ⟨_, rfl, p, _, _, _, rfl, rfl, .inl (.inl (s0 _ _ hp)), atI_nat (j := 5) rfl, a5, _, x, rfl, e5.same s0, (lkB _ _ (by decide)), ?_⟩
    refine ⟨(by show 6 ≤ sizeLine; decide), fun l0 n_l0 => ?_⟩
    have t := same_upd (o := .lst [x, x, x, x, x, x]) n_l0
    replace s0 := s0.trans t
    have f_l0 : (upd H l0 (.lst [x, x, x, x, x, x])) l0 = some (.lst [x, x, x, x, x, x]) := upd_same
    clear t
    generalize upd H l0 (.lst [x, x, x, x, x, x]) = J1 at s0 f_l0 ⊢
    refine ⟨_, rfl, ?_⟩
    refine ⟨_, rfl, p, _, _, _, rfl, rfl, .inl (.inl (s0 _ _ hp)), atI_nat (j := 6) rfl, a6, _, x, rfl, e6.same s0, (lkA _ _ _), ?_⟩
    refine ⟨_, rfl, p, _, _, _, rfl, rfl, .inl (.inl (s0 _ _ hp)), atI_nat (j := 7) rfl, a7, _, x, rfl, e7.same s0, (lkA _ _ _), ?_⟩
    refine ⟨_, rfl, p, _, _, _, rfl, rfl, .inl (.inl (s0 _ _ hp)), atI_nat (j := 8) rfl, a8, _, x, rfl, e8.same s0, (lkA _ _ _), ?_⟩
    refine ⟨_, rfl, p, _, _, _, rfl, rfl, .inl (.inl (s0 _ _ hp)), atI_nat (j := 9) rfl, a9, _, x, rfl, e9.same s0, (lkA _ _ _), ?_⟩
    refine ⟨_, rfl, p, _, _, _, rfl, rfl, .inl (.inl (s0 _ _ hp)), atI_nat (j := 10) rfl, a10, _, x, rfl, e10.same s0, (lkA _ _ _), ?_⟩
    refine ⟨_, rfl, p, _, _, _, rfl, rfl, .inl (.inl (s0 _ _ hp)), atI_nat (j := 11) rfl, a11, _, x, rfl, e11.same s0, (lkA _ _ _), ?_⟩
    refine ⟨(by show 6 ≤ sizeLine; decide), fun l1 n_l1 => ?_⟩
    have t := same_upd (o := .lst [x, x, x, x, x, x]) n_l1
    replace s0 := s0.trans t
    replace f_l0 := t _ _ f_l0
    have f_l1 : (upd J1 l1 (.lst [x, x, x, x, x, x])) l1 = some (.lst [x, x, x, x, x, x]) := upd_same
    clear t
    generalize upd J1 l1 (.lst [x, x, x, x, x, x]) = J2 at s0 f_l1 f_l0 ⊢
    refine ⟨_, _, _, _, rfl, rfl, f_l0, f_l1, (by show 12 ≤ sizeLine; decide), fun q1 n_q1 => ?_⟩
    have t := same_upd (o := .lst ([x, x, x, x, x, x] ++ [x, x, x, x, x, x])) n_q1
    replace s0 := s0.trans t
    have f_q1 : (upd J2 q1 (.lst ([x, x, x, x, x, x] ++ [x, x, x, x, x, x]))) q1 = some (.lst ([x, x, x, x, x, x] ++ [x, x, x, x, x, x])) := upd_same
    clear t
    generalize upd J2 q1 (.lst ([x, x, x, x, x, x] ++ [x, x, x, x, x, x])) = J3 at s0 f_q1 ⊢
    refine ⟨_, rfl, ?_⟩
    refine ⟨_, rfl, p, _, _, _, rfl, rfl, .inl (.inl (s0 _ _ hp)), atI_nat (j := 12) rfl, a12, _, x, rfl, e12.same s0, (lkB _ _ (by decide)), ?_⟩
    refine ⟨_, rfl, p, _, _, _, rfl, rfl, .inl (.inl (s0 _ _ hp)), atI_nat (j := 13) rfl, a13, _, x, rfl, e13.same s0, (lkB _ _ (by decide)), ?_⟩
    refine ⟨_, rfl, p, _, _, _, rfl, rfl, .inl (.inl (s0 _ _ hp)), atI_nat (j := 14) rfl, a14, _, x, rfl, e14.same s0, (lkB _ _ (by decide)), ?_⟩
    refine ⟨_, rfl, p, _, _, _, rfl, rfl, .inl (.inl (s0 _ _ hp)), atI_nat (j := 15) rfl, a15, _, x, rfl, e15.same s0, (lkA _ _ _), ?_⟩
    refine ⟨_, rfl, p, _, _, _, rfl, rfl, .inl (.inl (s0 _ _ hp)), atI_nat (j := 16) rfl, a16, _, x, rfl, e16.same s0, (lkA _ _ _), ?_⟩
    refine ⟨_, rfl, p, _, _, _, rfl, rfl, .inl (.inl (s0 _ _ hp)), atI_nat (j := 17) rfl, a17, _, x, rfl, e17.same s0, (lkA _ _ _), ?_⟩
    refine ⟨(by show 6 ≤ sizeLine; decide), fun l2 n_l2 => ?_⟩
    have t := same_upd (o := .lst [x, x, x, x, x, x]) n_l2
    replace s0 := s0.trans t
    replace f_q1 := t _ _ f_q1
    have f_l2 : (upd J3 l2 (.lst [x, x, x, x, x, x])) l2 = some (.lst [x, x, x, x, x, x]) := upd_same
    clear t
    generalize upd J3 l2 (.lst [x, x, x, x, x, x]) = J4 at s0 f_l2 f_q1 ⊢
    refine ⟨_, _, _, _, rfl, rfl, f_q1, f_l2, (by show 18 ≤ sizeLine; decide), fun q2 n_q2 => ?_⟩
    have hq2 : H q2 = none := s0.free n_q2
    have t := same_upd (o := .lst (([x, x, x, x, x, x] ++ [x, x, x, x, x, x]) ++ [x, x, x, x, x, x])) n_q2
    replace s0 := s0.trans t
    have f_q2 : (upd J4 q2 (.lst (([x, x, x, x, x, x] ++ [x, x, x, x, x, x]) ++ [x, x, x, x, x, x]))) q2 = some (.lst (([x, x, x, x, x, x] ++ [x, x, x, x, x, x]) ++ [x, x, x, x, x, x])) := upd_same
    clear t
    generalize upd J4 q2 (.lst (([x, x, x, x, x, x] ++ [x, x, x, x, x, x]) ++ [x, x, x, x, x, x])) = J5 at s0 f_q2 ⊢
    refine ⟨_, rfl, .inl ⟨rfl, _, .inl (.inl f_q2)⟩, ?_⟩
    refine ⟨_, rfl, p, _, _, _, rfl, rfl, .inl (.inl (s0 _ _ hp)), atI_nat (j := 18) rfl, a18, _, x, rfl, e18.same s0, (lkA _ _ _), ?_⟩
    refine ⟨_, _, _, rfl, rfl, f_q2, (by show 18 < sizeLine; decide), ?_⟩
    have k0 : Same H (upd J5 q2 (.lst ((([x, x, x, x, x, x] ++ [x, x, x, x, x, x]) ++ [x, x, x, x, x, x]) ++ [x]))) := fun b o e => by rw [upd_ne (ne_of_none e hq2)]; exact s0 b o e
    replace s0 := k0
    replace f_q2 : (upd J5 q2 (.lst ((([x, x, x, x, x, x] ++ [x, x, x, x, x, x]) ++ [x, x, x, x, x, x]) ++ [x]))) q2 = some (.lst ((([x, x, x, x, x, x] ++ [x, x, x, x, x, x]) ++ [x, x, x, x, x, x]) ++ [x])) := upd_same
    clear k0
    generalize upd J5 q2 (.lst ((([x, x, x, x, x, x] ++ [x, x, x, x, x, x]) ++ [x, x, x, x, x, x]) ++ [x])) = JA at s0 f_q2 ⊢
    refine ⟨_, rfl, p, _, _, _, rfl, rfl, .inl (.inl (s0 _ _ hp)), atI_nat (j := 4) rfl, a4, _, y, rfl, e4.same s0, (lkA _ _ _), ?_⟩
    refine ⟨_, rfl, p, _, _, _, rfl, rfl, .inl (.inl (s0 _ _ hp)), atI_nat (j := 5) rfl, a5, _, y, rfl, e5.same s0, (lkA _ _ _), ?_⟩
    refine ⟨_, rfl, p, _, _, _, rfl, rfl, .inl (.inl (s0 _ _ hp)), atI_nat (j := 12) rfl, a12, _, y, rfl, e12.same s0, (lkA _ _ _), ?_⟩
    refine ⟨_, rfl, p, _, _, _, rfl, rfl, .inl (.inl (s0 _ _ hp)), atI_nat (j := 13) rfl, a13, _, y, rfl, e13.same s0, (lkA _ _ _), ?_⟩
    refine ⟨_, rfl, p, _, _, _, rfl, rfl, .inl (.inl (s0 _ _ hp)), atI_nat (j := 14) rfl, a14, _, y, rfl, e14.same s0, (lkA _ _ _), ?_⟩
    refine ⟨(by show 5 ≤ sizeLine; decide), fun l4 n_l4 => ?_⟩
    have t := same_upd (o := .lst [y, y, y, y, y]) n_l4
    replace s0 := s0.trans t
    replace f_q2 := t _ _ f_q2
    have f_l4 : (upd JA l4 (.lst [y, y, y, y, y])) l4 = some (.lst [y, y, y, y, y]) := upd_same
    clear t
    generalize upd JA l4 (.lst [y, y, y, y, y]) = J6 at s0 f_l4 f_q2 ⊢
    have hx1 := hx
    refine ⟨_, rfl, _, 18, x, d, rfl, f_q2, ThD.same hx.th s0, hx.sh, hx.z19, hx.dp, ?_⟩
    refine ⟨_, rfl, (by show 1 ≤ sizeLine; decide), fun m19 n_m19 => ?_⟩
    have t := same_upd (o := .lst [x]) n_m19
    replace s0 := s0.trans t
    replace f_l4 := t _ _ f_l4
    have f_m19 : (upd J6 m19 (.lst [x])) m19 = some (.lst [x]) := upd_same
    clear t
    generalize upd J6 m19 (.lst [x]) = J7 at s0 f_m19 f_l4 ⊢
    refine ⟨_, _, _, rfl, rfl, f_m19, by decide, by decide, (by show 1 * 19 ≤ sizeLine; decide), fun o19 n_o19 => ?_⟩
    have t := same_upd (o := .lst (List.replicate (19 : Int).toNat [x]).flatten) n_o19
    replace s0 := s0.trans t
    replace f_l4 := t _ _ f_l4
    have f_o19 : (upd J7 o19 (.lst (List.replicate (19 : Int).toNat [x]).flatten)) o19 = some (.lst (List.replicate (19 : Int).toNat [x]).flatten) := upd_same
    clear t
    generalize upd J7 o19 (.lst (List.replicate (19 : Int).toNat [x]).flatten) = J8 at s0 f_o19 f_l4 ⊢
    refine ⟨_, 18, x, d, rfl, f_o19, ThD.same hx.th s0, hx.sh, hx.z19, hx.dp, rfl, ?_⟩
    refine ⟨_, rfl, iteB (c := true) (by simp) (iteT ?_)⟩
    refine ⟨_, rfl, _, 4, y, e, rfl, f_l4, ThD.same hy.th s0, hy.sh, hy.z5, hy.dp, ?_⟩
    refine ⟨_, rfl, (by show 1 ≤ sizeLine; decide), fun m5 n_m5 => ?_⟩
    have t := same_upd (o := .lst [y]) n_m5
    replace s0 := s0.trans t
    have f_m5 : (upd J8 m5 (.lst [y])) m5 = some (.lst [y]) := upd_same
    clear t
    generalize upd J8 m5 (.lst [y]) = J9 at s0 f_m5 ⊢
    refine ⟨_, _, _, rfl, rfl, f_m5, by decide, by decide, (by show 1 * 5 ≤ sizeLine; decide), fun o5 n_o5 => ?_⟩
    have t := same_upd (o := .lst (List.replicate (5 : Int).toNat [y]).flatten) n_o5
    replace s0 := s0.trans t
    have f_o5 : (upd J9 o5 (.lst (List.replicate (5 : Int).toNat [y]).flatten)) o5 = some (.lst (List.replicate (5 : Int).toNat [y]).flatten) := upd_same
    clear t
    generalize upd J9 o5 (.lst (List.replicate (5 : Int).toNat [y]).flatten) = J10 at s0 f_o5 ⊢
    refine ⟨_, 4, y, e, rfl, f_o5, ThD.same hy.th s0, hy.sh, hy.z5, hy.dp, rfl, ?_⟩
    have hq := q _ s0
    rw [show decide (V.str (listText (List.replicate (4 + 1) e.shown)) = V.str (listText (List.replicate (4 + 1) e.shown))) = true by simp]
    exact hq
end
end K01

namespace K01
open PySem PySem.Spec PyProof.Rows L2 TL GG OO
section
variable {P : Program} {w : World} {K : PySem.W.Frag} {mg : Str → Option Value} {base : Heap} {c fi : Nat → Addr} {fd : Nat → FuncData} {pe : Addr}
/-- the marks of the i-th class -/
def marks (i : Nat) : List Bool := (List.range 14).map fun j => decide (j = i)
def spMarks (K : PySem.W.Frag) (c : Nat → Addr) : Sp := fun vs H Q _ => ∃ (a : Addr) (i : Nat) (fs : List (Str × V)), vs = [.ref a] ∧ i < 14 ∧ ExV (c i) H a fs ∧ ∀ (H' : Hp) (p : Addr), Same H H' → H' p = some (.lst ((marks i).map V.bl)) → Q (.ref p) H'
theorem sc_l_marks : FnScope ["_law_e", "_law_some"] ["_law_e"] (defScope s_l_marks) := ⟨rfl, rfl, rfl, by decide +kernel, rfl, by decide +kernel, by decide +kernel⟩
theorem ok_l_marks {f : Addr} {fd0 : FuncData} (F : Fun K "_law_marks" "_law_marks" s_l_marks f fd0) (B : Blt K mg) (T : Er K mg c fi pe) : FnOk P w K mg base CX0 1 f fd0 ["_law_e"] (spMarks K c) := by
  refine F.ok sc_l_marks (fun vs H Q E h => ?_) (fun cdv A outer s H vs Q E hr h => ?_)
  · obtain ⟨a, i, fs, rfl, _⟩ := h
    rfl
  · obtain ⟨a, i, fs, rfl, hi, ex, q⟩ := h
    obtain ⟨nm, Ti⟩ := T.any i hi
    refine ⟨_, (pss_cons (ps_set (i := 1) sc_l_marks.nd rfl (.inl rfl) (pe_lst (pa_cons (pe_callB (call_isV T.D) (by rfl) B.m_isinstance (by decide +kernel) (pa_cons (pv 0) (pa_cons (pe_glob (v := .ref (c 0)) rfl T.T0.g rfl) pa_nil))) (pa_cons (pe_callB (call_isV T.D) (by rfl) B.m_isinstance (by decide +kernel) (pa_cons (pv 0) (pa_cons (pe_glob (v := .ref (c 1)) rfl T.T1.g rfl) pa_nil))) (pa_cons (pe_callB (call_isV T.D) (by rfl) B.m_isinstance (by decide +kernel) (pa_cons (pv 0) (pa_cons (pe_glob (v := .ref (c 2)) rfl T.T2.g rfl) pa_nil))) pa_nil))))) 
        (pss_cons (ps_set (i := 1) sc_l_marks.nd rfl (.inl rfl) (pe_op op_cat (pv 1) (pe_lst (pa_cons (pe_callB (call_isV T.D) (by rfl) B.m_isinstance (by decide +kernel) (pa_cons (pv 0) (pa_cons (pe_glob (v := .ref (c 3)) rfl T.T3.g rfl) pa_nil))) (pa_cons (pe_callB (call_isV T.D) (by rfl) B.m_isinstance (by decide +kernel) (pa_cons (pv 0) (pa_cons (pe_glob (v := .ref (c 4)) rfl T.T4.g rfl) pa_nil))) (pa_cons (pe_callB (call_isV T.D) (by rfl) B.m_isinstance (by decide +kernel) (pa_cons (pv 0) (pa_cons (pe_glob (v := .ref (c 5)) rfl T.T5.g rfl) pa_nil))) pa_nil)))))) 
        (pss_cons (ps_set (i := 1) sc_l_marks.nd rfl (.inl rfl) (pe_op op_cat (pv 1) (pe_lst (pa_cons (pe_callB (call_isV T.D) (by rfl) B.m_isinstance (by decide +kernel) (pa_cons (pv 0) (pa_cons (pe_glob (v := .ref (c 6)) rfl T.T6.g rfl) pa_nil))) (pa_cons (pe_callB (call_isV T.D) (by rfl) B.m_isinstance (by decide +kernel) (pa_cons (pv 0) (pa_cons (pe_glob (v := .ref (c 7)) rfl T.T7.g rfl) pa_nil))) (pa_cons (pe_callB (call_isV T.D) (by rfl) B.m_isinstance (by decide +kernel) (pa_cons (pv 0) (pa_cons (pe_glob (v := .ref (c 8)) rfl T.T8.g rfl) pa_nil))) pa_nil)))))) 
        (pss_cons (ps_expr (pe_bm PySem.F.plainAttrs_list PySem.F.slot_list_append PySem.F.type_list_append mt_append (pv 1) (pa_cons (pe_callB (call_isV T.D) (by rfl) B.m_isinstance (by decide +kernel) (pa_cons (pv 0) (pa_cons (pe_glob (v := .ref (c 9)) rfl T.T9.g rfl) pa_nil))) pa_nil))) 
        (pss_cons (ps_set (i := 1) sc_l_marks.nd rfl (.inl rfl) (pe_op op_cat (pv 1) (pe_lst (pa_cons (pe_callB (call_isV T.D) (by rfl) B.m_isinstance (by decide +kernel) (pa_cons (pv 0) (pa_cons (pe_glob (v := .ref (c 10)) rfl T.T10.g rfl) pa_nil))) (pa_cons (pe_callB (call_isV T.D) (by rfl) B.m_isinstance (by decide +kernel) (pa_cons (pv 0) (pa_cons (pe_glob (v := .ref (c 11)) rfl T.T11.g rfl) pa_nil))) (pa_cons (pe_callB (call_isV T.D) (by rfl) B.m_isinstance (by decide +kernel) (pa_cons (pv 0) (pa_cons (pe_glob (v := .ref (c 12)) rfl T.T12.g rfl) pa_nil))) pa_nil)))))) 
        (pss_one (ps_ret (pe_op op_cat (pv 1) (pe_lst (pa_cons (pe_callB (call_isV T.D) (by rfl) B.m_isinstance (by decide +kernel) (pa_cons (pv 0) (pa_cons (pe_glob (v := .ref (c 13)) rfl T.T13.g rfl) pa_nil))) pa_nil)))))))))), ?_⟩
    have s0 := Same.refl H
    refine ⟨_, rfl, a, c i, fi i, nm, fs, _, _, _, rfl, Ti, ex.same s0, .own _, T.own i 0 hi (by decide), ?_⟩
    refine ⟨_, rfl, a, c i, fi i, nm, fs, _, _, _, rfl, Ti, ex.same s0, .own _, T.own i 1 hi (by decide), ?_⟩
    refine ⟨_, rfl, a, c i, fi i, nm, fs, _, _, _, rfl, Ti, ex.same s0, .own _, T.own i 2 hi (by decide), ?_⟩
    refine ⟨(by show 3 ≤ sizeLine; decide), fun l0 n_l0 => ?_⟩
    have t := same_upd (o := .lst [V.bl (decide (0 = i)), V.bl (decide (1 = i)), V.bl (decide (2 = i))]) n_l0
    replace s0 := s0.trans t
    have f_l0 : (upd H l0 (.lst [V.bl (decide (0 = i)), V.bl (decide (1 = i)), V.bl (decide (2 = i))])) l0 = some (.lst [V.bl (decide (0 = i)), V.bl (decide (1 = i)), V.bl (decide (2 = i))]) := upd_same
    clear t
    generalize upd H l0 (.lst [V.bl (decide (0 = i)), V.bl (decide (1 = i)), V.bl (decide (2 = i))]) = J1 at s0 f_l0 ⊢
    refine ⟨_, rfl, ?_⟩
    refine ⟨_, rfl, a, c i, fi i, nm, fs, _, _, _, rfl, Ti, ex.same s0, .own _, T.own i 3 hi (by decide), ?_⟩
    refine ⟨_, rfl, a, c i, fi i, nm, fs, _, _, _, rfl, Ti, ex.same s0, .own _, T.own i 4 hi (by decide), ?_⟩
    refine ⟨_, rfl, a, c i, fi i, nm, fs, _, _, _, rfl, Ti, ex.same s0, .own _, T.own i 5 hi (by decide), ?_⟩
    refine ⟨(by show 3 ≤ sizeLine; decide), fun l1 n_l1 => ?_⟩
    have t := same_upd (o := .lst [V.bl (decide (3 = i)), V.bl (decide (4 = i)), V.bl (decide (5 = i))]) n_l1
    replace s0 := s0.trans t
    replace f_l0 := t _ _ f_l0
    have f_l1 : (upd J1 l1 (.lst [V.bl (decide (3 = i)), V.bl (decide (4 = i)), V.bl (decide (5 = i))])) l1 = some (.lst [V.bl (decide (3 = i)), V.bl (decide (4 = i)), V.bl (decide (5 = i))]) := upd_same
    clear t
    generalize upd J1 l1 (.lst [V.bl (decide (3 = i)), V.bl (decide (4 = i)), V.bl (decide (5 = i))]) = J2 at s0 f_l1 f_l0 ⊢
    refine ⟨_, _, _, _, rfl, rfl, f_l0, f_l1, (by show 6 ≤ sizeLine; decide), fun q1 n_q1 => ?_⟩
    have t := same_upd (o := .lst ([V.bl (decide (0 = i)), V.bl (decide (1 = i)), V.bl (decide (2 = i))] ++ [V.bl (decide (3 = i)), V.bl (decide (4 = i)), V.bl (decide (5 = i))])) n_q1
    replace s0 := s0.trans t
    have f_q1 : (upd J2 q1 (.lst ([V.bl (decide (0 = i)), V.bl (decide (1 = i)), V.bl (decide (2 = i))] ++ [V.bl (decide (3 = i)), V.bl (decide (4 = i)), V.bl (decide (5 = i))]))) q1 = some (.lst ([V.bl (decide (0 = i)), V.bl (decide (1 = i)), V.bl (decide (2 = i))] ++ [V.bl (decide (3 = i)), V.bl (decide (4 = i)), V.bl (decide (5 = i))])) := upd_same
    clear t
    generalize upd J2 q1 (.lst ([V.bl (decide (0 = i)), V.bl (decide (1 = i)), V.bl (decide (2 = i))] ++ [V.bl (decide (3 = i)), V.bl (decide (4 = i)), V.bl (decide (5 = i))])) = J3 at s0 f_q1 ⊢
    refine ⟨_, rfl, ?_⟩
    refine ⟨_, rfl, a, c i, fi i, nm, fs, _, _, _, rfl, Ti, ex.same s0, .own _, T.own i 6 hi (by decide), ?_⟩
    refine ⟨_, rfl, a, c i, fi i, nm, fs, _, _, _, rfl, Ti, ex.same s0, .own _, T.own i 7 hi (by decide), ?_⟩
    refine ⟨_, rfl, a, c i, fi i, nm, fs, _, _, _, rfl, Ti, ex.same s0, .own _, T.own i 8 hi (by decide), ?_⟩
    refine ⟨(by show 3 ≤ sizeLine; decide), fun l2 n_l2 => ?_⟩
    have t := same_upd (o := .lst [V.bl (decide (6 = i)), V.bl (decide (7 = i)), V.bl (decide (8 = i))]) n_l2
    replace s0 := s0.trans t
    replace f_q1 := t _ _ f_q1
    have f_l2 : (upd J3 l2 (.lst [V.bl (decide (6 = i)), V.bl (decide (7 = i)), V.bl (decide (8 = i))])) l2 = some (.lst [V.bl (decide (6 = i)), V.bl (decide (7 = i)), V.bl (decide (8 = i))]) := upd_same
    clear t
    generalize upd J3 l2 (.lst [V.bl (decide (6 = i)), V.bl (decide (7 = i)), V.bl (decide (8 = i))]) = J4 at s0 f_l2 f_q1 ⊢
    refine ⟨_, _, _, _, rfl, rfl, f_q1, f_l2, (by show 9 ≤ sizeLine; decide), fun q2 n_q2 => ?_⟩
    have hq2 : H q2 = none := s0.free n_q2
    have t := same_upd (o := .lst (([V.bl (decide (0 = i)), V.bl (decide (1 = i)), V.bl (decide (2 = i))] ++ [V.bl (decide (3 = i)), V.bl (decide (4 = i)), V.bl (decide (5 = i))]) ++ [V.bl (decide (6 = i)), V.bl (decide (7 = i)), V.bl (decide (8 = i))])) n_q2
    replace s0 := s0.trans t
    have f_q2 : (upd J4 q2 (.lst (([V.bl (decide (0 = i)), V.bl (decide (1 = i)), V.bl (decide (2 = i))] ++ [V.bl (decide (3 = i)), V.bl (decide (4 = i)), V.bl (decide (5 = i))]) ++ [V.bl (decide (6 = i)), V.bl (decide (7 = i)), V.bl (decide (8 = i))]))) q2 = some (.lst (([V.bl (decide (0 = i)), V.bl (decide (1 = i)), V.bl (decide (2 = i))] ++ [V.bl (decide (3 = i)), V.bl (decide (4 = i)), V.bl (decide (5 = i))]) ++ [V.bl (decide (6 = i)), V.bl (decide (7 = i)), V.bl (decide (8 = i))])) := upd_same
    clear t
    generalize upd J4 q2 (.lst (([V.bl (decide (0 = i)), V.bl (decide (1 = i)), V.bl (decide (2 = i))] ++ [V.bl (decide (3 = i)), V.bl (decide (4 = i)), V.bl (decide (5 = i))]) ++ [V.bl (decide (6 = i)), V.bl (decide (7 = i)), V.bl (decide (8 = i))])) = J5 at s0 f_q2 ⊢
    refine ⟨_, rfl, .inl ⟨rfl, _, .inl (.inl f_q2)⟩, ?_⟩
    refine ⟨_, rfl, a, c i, fi i, nm, fs, _, _, _, rfl, Ti, ex.same s0, .own _, T.own i 9 hi (by decide), ?_⟩
    refine ⟨_, _, _, rfl, rfl, f_q2, (by show 9 < sizeLine; decide), ?_⟩
    have k0 : Same H (upd J5 q2 (.lst ((([V.bl (decide (0 = i)), V.bl (decide (1 = i)), V.bl (decide (2 = i))] ++ [V.bl (decide (3 = i)), V.bl (decide (4 = i)), V.bl (decide (5 = i))]) ++ [V.bl (decide (6 = i)), V.bl (decide (7 = i)), V.bl (decide (8 = i))]) ++ [V.bl (decide (9 = i))]))) := fun b o e => by rw [upd_ne (ne_of_none e hq2)]; exact s0 b o e
    replace s0 := k0
    replace f_q2 : (upd J5 q2 (.lst ((([V.bl (decide (0 = i)), V.bl (decide (1 = i)), V.bl (decide (2 = i))] ++ [V.bl (decide (3 = i)), V.bl (decide (4 = i)), V.bl (decide (5 = i))]) ++ [V.bl (decide (6 = i)), V.bl (decide (7 = i)), V.bl (decide (8 = i))]) ++ [V.bl (decide (9 = i))]))) q2 = some (.lst ((([V.bl (decide (0 = i)), V.bl (decide (1 = i)), V.bl (decide (2 = i))] ++ [V.bl (decide (3 = i)), V.bl (decide (4 = i)), V.bl (decide (5 = i))]) ++ [V.bl (decide (6 = i)), V.bl (decide (7 = i)), V.bl (decide (8 = i))]) ++ [V.bl (decide (9 = i))])) := upd_same
    clear k0
    generalize upd J5 q2 (.lst ((([V.bl (decide (0 = i)), V.bl (decide (1 = i)), V.bl (decide (2 = i))] ++ [V.bl (decide (3 = i)), V.bl (decide (4 = i)), V.bl (decide (5 = i))]) ++ [V.bl (decide (6 = i)), V.bl (decide (7 = i)), V.bl (decide (8 = i))]) ++ [V.bl (decide (9 = i))])) = JA at s0 f_q2 ⊢
    refine ⟨_, rfl, ?_⟩
    refine ⟨_, rfl, a, c i, fi i, nm, fs, _, _, _, rfl, Ti, ex.same s0, .own _, T.own i 10 hi (by decide), ?_⟩
    refine ⟨_, rfl, a, c i, fi i, nm, fs, _, _, _, rfl, Ti, ex.same s0, .own _, T.own i 11 hi (by decide), ?_⟩
    refine ⟨_, rfl, a, c i, fi i, nm, fs, _, _, _, rfl, Ti, ex.same s0, .own _, T.own i 12 hi (by decide), ?_⟩
    refine ⟨(by show 3 ≤ sizeLine; decide), fun l4 n_l4 => ?_⟩
    have t := same_upd (o := .lst [V.bl (decide (10 = i)), V.bl (decide (11 = i)), V.bl (decide (12 = i))]) n_l4
    replace s0 := s0.trans t
    replace f_q2 := t _ _ f_q2
    have f_l4 : (upd JA l4 (.lst [V.bl (decide (10 = i)), V.bl (decide (11 = i)), V.bl (decide (12 = i))])) l4 = some (.lst [V.bl (decide (10 = i)), V.bl (decide (11 = i)), V.bl (decide (12 = i))]) := upd_same
    clear t
    generalize upd JA l4 (.lst [V.bl (decide (10 = i)), V.bl (decide (11 = i)), V.bl (decide (12 = i))]) = J6 at s0 f_l4 f_q2 ⊢
    refine ⟨_, _, _, _, rfl, rfl, f_q2, f_l4, (by show 13 ≤ sizeLine; decide), fun q4 n_q4 => ?_⟩
    have t := same_upd (o := .lst (((([V.bl (decide (0 = i)), V.bl (decide (1 = i)), V.bl (decide (2 = i))] ++ [V.bl (decide (3 = i)), V.bl (decide (4 = i)), V.bl (decide (5 = i))]) ++ [V.bl (decide (6 = i)), V.bl (decide (7 = i)), V.bl (decide (8 = i))]) ++ [V.bl (decide (9 = i))]) ++ [V.bl (decide (10 = i)), V.bl (decide (11 = i)), V.bl (decide (12 = i))])) n_q4
    replace s0 := s0.trans t
    have f_q4 : (upd J6 q4 (.lst (((([V.bl (decide (0 = i)), V.bl (decide (1 = i)), V.bl (decide (2 = i))] ++ [V.bl (decide (3 = i)), V.bl (decide (4 = i)), V.bl (decide (5 = i))]) ++ [V.bl (decide (6 = i)), V.bl (decide (7 = i)), V.bl (decide (8 = i))]) ++ [V.bl (decide (9 = i))]) ++ [V.bl (decide (10 = i)), V.bl (decide (11 = i)), V.bl (decide (12 = i))]))) q4 = some (.lst (((([V.bl (decide (0 = i)), V.bl (decide (1 = i)), V.bl (decide (2 = i))] ++ [V.bl (decide (3 = i)), V.bl (decide (4 = i)), V.bl (decide (5 = i))]) ++ [V.bl (decide (6 = i)), V.bl (decide (7 = i)), V.bl (decide (8 = i))]) ++ [V.bl (decide (9 = i))]) ++ [V.bl (decide (10 = i)), V.bl (decide (11 = i)), V.bl (decide (12 = i))])) := upd_same
    clear t
    generalize upd J6 q4 (.lst (((([V.bl (decide (0 = i)), V.bl (decide (1 = i)), V.bl (decide (2 = i))] ++ [V.bl (decide (3 = i)), V.bl (decide (4 = i)), V.bl (decide (5 = i))]) ++ [V.bl (decide (6 = i)), V.bl (decide (7 = i)), V.bl (decide (8 = i))]) ++ [V.bl (decide (9 = i))]) ++ [V.bl (decide (10 = i)), V.bl (decide (11 = i)), V.bl (decide (12 = i))])) = J7 at s0 f_q4 ⊢
    refine ⟨_, rfl, ?_⟩
    refine ⟨_, rfl, a, c i, fi i, nm, fs, _, _, _, rfl, Ti, ex.same s0, .own _, T.own i 13 hi (by decide), ?_⟩
    refine ⟨(by show 1 ≤ sizeLine; decide), fun l5 n_l5 => ?_⟩
    have t := same_upd (o := .lst [V.bl (decide (13 = i))]) n_l5
    replace s0 := s0.trans t
    replace f_q4 := t _ _ f_q4
    have f_l5 : (upd J7 l5 (.lst [V.bl (decide (13 = i))])) l5 = some (.lst [V.bl (decide (13 = i))]) := upd_same
    clear t
    generalize upd J7 l5 (.lst [V.bl (decide (13 = i))]) = J8 at s0 f_l5 f_q4 ⊢
    refine ⟨_, _, _, _, rfl, rfl, f_q4, f_l5, (by show 14 ≤ sizeLine; decide), fun q5 n_q5 => ?_⟩
    exact q _ _ (s0.trans (same_upd n_q5)) upd_same
def spKinds (K : PySem.W.Frag) (c : Nat → Addr) : Sp := fun vs H Q _ => ∃ (p : Addr) (as : List V) (x y : V), vs = [.ref p] ∧ H p = some (.lst as) ∧ MadeOk c H as x y ∧ ∀ H', Same H H' → Q (.bl true) H'
theorem dp_bools {K : PySem.W.Frag} {H : Hp} : ∀ bs : List Bool, DpAll K H (bs.map V.bl) (bs.map PyData.bool)
  | [] => .nil
  | b :: bs => .cons (.bl b) (dp_bools bs)
theorem eqI0 (k i : Nat) : decide (k = i) = decide (V.int ((0 : Int) + (k : Int)) = V.int (i : Int)) := by
  rw [Bool.eq_iff_iff, decide_eq_true_iff, decide_eq_true_iff, V.int.injEq]
  omega
theorem ltI (i n : Nat) : (!decide (V.bl (decide (i < n)) = V.bl (decide ((i : Int) < (n : Int))))) = false := by
  rw [show decide ((i : Int) < (n : Int)) = decide (i < n) by rw [Bool.eq_iff_iff, decide_eq_true_iff, decide_eq_true_iff]; omega]
  simp
theorem eqI (i n : Nat) : (!decide (V.bl (decide (i = n)) = V.bl (decide (V.int (i : Int) = V.int (n : Int))))) = false := by
  rw [show decide (V.int (i : Int) = V.int (n : Int)) = decide (i = n) by rw [Bool.eq_iff_iff, decide_eq_true_iff, decide_eq_true_iff, V.int.injEq]; omega]
  simp
theorem sh_marks : ∀ i, i < 14 → SeqAt.shaped (.list ((marks i).map PyData.bool)) = true := by decide +kernel
theorem sc_l_kinds_right : FnScope ["_law_made_here", "_law_single", "_law_at", "_law_one", "_law_k"] ["_law_made_here"] (defScope s_l_kinds_right) := ⟨rfl, rfl, rfl, by decide +kernel, rfl, by decide +kernel, by decide +kernel⟩
theorem ok_l_kinds_right {f : Addr} {fd0 : FuncData} (F : Fun K "_law_kinds_right" "_law_kinds_right" s_l_kinds_right f fd0) (B : Blt K mg) (T : Er K mg c fi pe)
    {f1 : Addr} {fd1 : FuncData} (F_l_marks : Fun K "_law_marks" "_law_marks" s_l_marks f1 fd1) (b_l_marks : Binds K fd1 ["_law_e"] []) (g_l_marks : mg "_law_marks" = some (.ref f1)) (G_l_marks : FnOk P w K mg base CX0 1 f1 fd1 ["_law_e"] (spMarks K c)) : FnOk P w K mg base CX0 2 f fd0 ["_law_made_here"] (spKinds K c) := by
  refine F.ok sc_l_kinds_right (fun vs H Q E h => ?_) (fun cdv A outer s H vs Q E hr h => ?_)
  · obtain ⟨p, as, x, y, rfl, _⟩ := h
    rfl
  · obtain ⟨p, as, x, y, rfl, hp, hm, q⟩ := h
    obtain ⟨a0, a1, a2, a3, a4, a5, a6, a7, a8, a9, a10, a11, a12, a13, a14, a15, a16, a17, a18, rfl, e0, e1, e2, e3, e4, e5, e6, e7, e8, e9, e10, e11, e12, e13, e14, e15, e16, e17, e18⟩ := made_cases hm
    have hS : ∀ i, i < 14 → ∃ b fs, [V.ref a0, V.ref a2, V.ref a4, V.ref a6, V.ref a7, V.ref a8, V.ref a9, V.ref a10, V.ref a12, V.ref a14, V.ref a15, V.ref a16, V.ref a17, V.ref a18][i]? = some (V.ref b) ∧ ExV (c i) H b fs := fun i hi => by
      match i, hi with
      | 0, _ => exact ⟨a0, _, rfl, e0⟩
      | 1, _ => exact ⟨a2, _, rfl, e2⟩
      | 2, _ => exact ⟨a4, _, rfl, e4⟩
      | 3, _ => exact ⟨a6, _, rfl, e6⟩
      | 4, _ => exact ⟨a7, _, rfl, e7⟩
      | 5, _ => exact ⟨a8, _, rfl, e8⟩
      | 6, _ => exact ⟨a9, _, rfl, e9⟩
      | 7, _ => exact ⟨a10, _, rfl, e10⟩
      | 8, _ => exact ⟨a12, _, rfl, e12⟩
      | 9, _ => exact ⟨a14, _, rfl, e14⟩
      | 10, _ => exact ⟨a15, _, rfl, e15⟩
      | 11, _ => exact ⟨a16, _, rfl, e16⟩
      | 12, _ => exact ⟨a17, _, rfl, e17⟩
      | 13, _ => exact ⟨a18, _, rfl, e18⟩
      | n + 14, h => exact absurd h (by omega)
    refine ⟨_, (pss_cons (ps_set (i := 1) sc_l_kinds_right.nd rfl (.inl rfl) (pe_op op_cat (pe_lst (pa_cons (pe_ix ix_list (pv 0) pe_int (fun _ _ => rfl)) (pa_cons (pe_ix ix_list (pv 0) pe_int (fun _ _ => rfl)) (pa_cons (pe_ix ix_list (pv 0) pe_int (fun _ _ => rfl)) (pa_cons (pe_ix ix_list (pv 0) pe_int (fun _ _ => rfl)) (pa_cons (pe_ix ix_list (pv 0) pe_int (fun _ _ => rfl)) (pa_cons (pe_ix ix_list (pv 0) pe_int (fun _ _ => rfl)) (pa_cons (pe_ix ix_list (pv 0) pe_int (fun _ _ => rfl)) (pa_cons (pe_ix ix_list (pv 0) pe_int (fun _ _ => rfl)) (pa_cons (pe_ix ix_list (pv 0) pe_int (fun _ _ => rfl)) pa_nil)))))))))) (pe_slice sl_list (pv 0) (po_some pe_int) po_none))) 
        (pss_cons (ps_for PassesOwn.never rfl (pi_enum (by rfl) B.m_enumerate (pa_cons (pv 1) pa_nil)) (pg_tup rfl (pgs_cons (pg_name (i := 2) sc_l_kinds_right.nd rfl (.inr rfl)) (pgs_cons (pg_name (i := 3) sc_l_kinds_right.nd rfl (.inl rfl)) pgs_nil))) 
          (pss_cons (ps_if (PW.pt (pw_or (pt_cmpR (op_neD hr.units) (pe_call G_l_marks hr (by rfl) g_l_marks F_l_marks.kp b_l_marks .nil pass0 (pa_cons (pv 3) pa_nil)) (pe_lc (own := [("_law_k", 4)]) (g := gName 4) rfl sc_l_kinds_right.nd (pi_range1 rfl B.m_range (pa_cons pe_int pa_nil)) (blkOk_by (N := ["_law_made_here", "_law_single", "_law_at", "_law_one", "_law_k"]) (sc := defScope s_l_kinds_right) (by decide +kernel)) (fun _ _ _ _ _ => pg_name (i := 4) sc_l_kinds_right.nd rfl (.inl rfl)) (fun _ _ _ _ _ => pts_nil) (fun _ _ _ _ _ => (pe_cmpR op_eq (pv 4) (pv 2) (nomark _)))) (nomark _)) (pw_or1 (pt_cmpR op_ne (pe_callB (call_isV T.D) (by rfl) B.m_isinstance (by decide +kernel) (pa_cons (pv 3) (pa_cons (pe_glob (v := .ref pe) rfl T.gpe rfl) pa_nil))) (pe_cmpR op_lt (pv 2) pe_int (nomark _)) (nomark _))))) 
            (pss_one (ps_ret pe_bl)) pss_nil) 
          (pss_cons (ps_if (PW.pt (pw_or (pt_cmpR op_ne (pe_callB (call_isV T.D) (by rfl) B.m_isinstance (by decide +kernel) (pa_cons (pv 3) (pa_cons (pe_bltn (v := .ty "ValueError") (u := .type "ValueError") (by rfl) B.m_ValueError (by decide +kernel) rfl) pa_nil))) (pe_cmpR op_lt (pv 2) pe_int (nomark _)) (nomark _)) (pw_or1 (pt_cmpR op_ne (pe_callB (call_isV T.D) (by rfl) B.m_isinstance (by decide +kernel) (pa_cons (pv 3) (pa_cons (pe_bltn (v := .ty "LookupError") (u := .type "LookupError") (by rfl) B.m_LookupError (by decide +kernel) rfl) pa_nil))) (pe_cmpR op_eq (pv 2) pe_int (nomark _)) (nomark _))))) 
            (pss_one (ps_ret pe_bl)) pss_nil) 
          (pss_one (ps_if (PW.pt (pw_or (pt_cmpR op_ne (pe_callB (call_isV T.D) (by rfl) B.m_isinstance (by decide +kernel) (pa_cons (pv 3) (pa_cons (pe_bltn (v := .ty "OverflowError") (u := .type "OverflowError") (by rfl) B.m_OverflowError (by decide +kernel) rfl) pa_nil))) (pe_cmpR op_eq (pv 2) pe_int (nomark _)) (nomark _)) (pw_or1 (pt_cmpR op_ne (pe_callB (call_isV T.D) (by rfl) B.m_isinstance (by decide +kernel) (pa_cons (pv 3) (pa_cons (pe_bltn (v := .ty "RuntimeError") (u := .type "RuntimeError") (by rfl) B.m_RuntimeError (by decide +kernel) rfl) pa_nil))) (pe_cmpR op_eq (pv 2) pe_int (nomark _)) (nomark _))))) 
            (pss_one (ps_ret pe_bl)) pss_nil))))) 
        (pss_one (ps_ret pe_bl)))), ?_⟩
    have s0 := Same.refl H
    refine ⟨_, rfl, p, _, _, _, rfl, rfl, .inl (.inl hp), atI_nat (j := 0) rfl, ?_⟩
    refine ⟨_, rfl, p, _, _, _, rfl, rfl, .inl (.inl hp), atI_nat (j := 2) rfl, ?_⟩
    refine ⟨_, rfl, p, _, _, _, rfl, rfl, .inl (.inl hp), atI_nat (j := 4) rfl, ?_⟩
    refine ⟨_, rfl, p, _, _, _, rfl, rfl, .inl (.inl hp), atI_nat (j := 6) rfl, ?_⟩
    refine ⟨_, rfl, p, _, _, _, rfl, rfl, .inl (.inl hp), atI_nat (j := 7) rfl, ?_⟩
    refine ⟨_, rfl, p, _, _, _, rfl, rfl, .inl (.inl hp), atI_nat (j := 8) rfl, ?_⟩
    refine ⟨_, rfl, p, _, _, _, rfl, rfl, .inl (.inl hp), atI_nat (j := 9) rfl, ?_⟩
    refine ⟨_, rfl, p, _, _, _, rfl, rfl, .inl (.inl hp), atI_nat (j := 10) rfl, ?_⟩
    refine ⟨_, rfl, p, _, _, _, rfl, rfl, .inl (.inl hp), atI_nat (j := 12) rfl, ?_⟩
    refine ⟨(by show 9 ≤ sizeLine; decide), fun l0 n_l0 => ?_⟩
    have t := same_upd (o := .lst [V.ref a0, V.ref a2, V.ref a4, V.ref a6, V.ref a7, V.ref a8, V.ref a9, V.ref a10, V.ref a12]) n_l0
    replace s0 := s0.trans t
    have f_l0 : (upd H l0 (.lst [V.ref a0, V.ref a2, V.ref a4, V.ref a6, V.ref a7, V.ref a8, V.ref a9, V.ref a10, V.ref a12])) l0 = some (.lst [V.ref a0, V.ref a2, V.ref a4, V.ref a6, V.ref a7, V.ref a8, V.ref a9, V.ref a10, V.ref a12]) := upd_same
    clear t
    generalize upd H l0 (.lst [V.ref a0, V.ref a2, V.ref a4, V.ref a6, V.ref a7, V.ref a8, V.ref a9, V.ref a10, V.ref a12]) = J1 at s0 f_l0 ⊢
    refine ⟨_, rfl, _, rfl, p, _, rfl, .inl (.inl (s0 _ _ hp)), fun l1 n_l1 => ?_⟩
    have hc : cutV [V.ref a0, V.ref a1, V.ref a2, V.ref a3, V.ref a4, V.ref a5, V.ref a6, V.ref a7, V.ref a8, V.ref a9, V.ref a10, V.ref a11, V.ref a12, V.ref a13, V.ref a14, V.ref a15, V.ref a16, V.ref a17, V.ref a18] (some 14) none = [V.ref a14, V.ref a15, V.ref a16, V.ref a17, V.ref a18] := rfl
    have n_l1 := n_l1
    have t := same_upd (o := .lst [V.ref a14, V.ref a15, V.ref a16, V.ref a17, V.ref a18]) n_l1
    have f_l1 : (upd J1 l1 (.lst (cutV [V.ref a0, V.ref a1, V.ref a2, V.ref a3, V.ref a4, V.ref a5, V.ref a6, V.ref a7, V.ref a8, V.ref a9, V.ref a10, V.ref a11, V.ref a12, V.ref a13, V.ref a14, V.ref a15, V.ref a16, V.ref a17, V.ref a18] (some 14) none))) l1 = some (.lst [V.ref a14, V.ref a15, V.ref a16, V.ref a17, V.ref a18]) := upd_same
    replace s0 := s0.trans t
    replace f_l0 := t _ _ f_l0
    clear t hc
    generalize hJ2 : upd J1 l1 (.lst (cutV [V.ref a0, V.ref a1, V.ref a2, V.ref a3, V.ref a4, V.ref a5, V.ref a6, V.ref a7, V.ref a8, V.ref a9, V.ref a10, V.ref a11, V.ref a12, V.ref a13, V.ref a14, V.ref a15, V.ref a16, V.ref a17, V.ref a18] (some 14) none)) = J2 at f_l1 ⊢
    replace hJ2 : upd J1 l1 (.lst [V.ref a14, V.ref a15, V.ref a16, V.ref a17, V.ref a18]) = J2 := hJ2
    rw [hJ2] at s0 f_l0
    clear hJ2
    refine ⟨_, _, _, _, rfl, rfl, f_l0, f_l1, (by show 14 ≤ sizeLine; decide), fun q0 n_q0 => ?_⟩
    have t := same_upd (o := .lst ([V.ref a0, V.ref a2, V.ref a4, V.ref a6, V.ref a7, V.ref a8, V.ref a9, V.ref a10, V.ref a12] ++ [V.ref a14, V.ref a15, V.ref a16, V.ref a17, V.ref a18])) n_q0
    replace s0 := s0.trans t
    have f_q0 : (upd J2 q0 (.lst ([V.ref a0, V.ref a2, V.ref a4, V.ref a6, V.ref a7, V.ref a8, V.ref a9, V.ref a10, V.ref a12] ++ [V.ref a14, V.ref a15, V.ref a16, V.ref a17, V.ref a18]))) q0 = some (.lst [V.ref a0, V.ref a2, V.ref a4, V.ref a6, V.ref a7, V.ref a8, V.ref a9, V.ref a10, V.ref a12, V.ref a14, V.ref a15, V.ref a16, V.ref a17, V.ref a18]) := upd_same
    clear t
    generalize upd J2 q0 (.lst ([V.ref a0, V.ref a2, V.ref a4, V.ref a6, V.ref a7, V.ref a8, V.ref a9, V.ref a10, V.ref a12] ++ [V.ref a14, V.ref a15, V.ref a16, V.ref a17, V.ref a18])) = J3 at s0 f_q0 ⊢
    refine ⟨_, rfl, q0, [V.ref a0, V.ref a2, V.ref a4, V.ref a6, V.ref a7, V.ref a8, V.ref a9, V.ref a10, V.ref a12, V.ref a14, V.ref a15, V.ref a16, V.ref a17, V.ref a18], rfl, .inl (.inl f_q0), for_it walk_enum (fun i σ H' => Same J3 H' ∧ ∃ y2 y3 y4 : Option V, σ = [some (.ref p), some (.ref q0), y2, y3, y4]) ⟨Same.refl J3, _, _, _, rfl⟩ (fun i σ H' _ h => .inl (.inl (h.1 _ _ f_q0))) ?_ ?_⟩
    · rintro i x1 σ H1 H1' hi ⟨s1, y2, y3, y4, rfl⟩ ⟨t, u, v, rfl, ht, rfl, hu, hx⟩
      have eu : u = .int (i : Nat) := (Option.some.inj hu).symm
      subst eu
      have hi14 : i < 14 := hi
      obtain ⟨b, fs, hb, hex⟩ := hS i hi14
      have ev : v = .ref b := Option.some.inj (hx.symm.trans hb)
      subst ev
      obtain ⟨nm, Ti⟩ := T.any i hi14
      have s2 : Same H (upd H1 t (.tup [.int (i : Nat), .ref b])) := (s0.trans s1).trans (same_upd ht)
      have s3 : Same J3 (upd H1 t (.tup [.int (i : Nat), .ref b])) := s1.trans (same_upd ht)
      refine ⟨t, _, rfl, .inl (.inl upd_same), rfl, _, _, rfl, _, _, rfl, ?_⟩
      generalize upd H1 t (.tup [.int (i : Nat), .ref b]) = H2 at s2 s3 ⊢
      refine ⟨rfl, _, rfl, b, i, fs, rfl, hi14, hex.same s2, fun H3 p1 s4 e1 => ?_⟩
      refine ⟨_, rfl, by decide, by decide, fun D hD => lc_range (lo := 0) (n := 14) (fun k H' => H' D = some (.lst (((List.range k).map fun j => decide (j = i)).map V.bl)) ∧ ∀ b, b ≠ D → H' b = H3 b) ⟨upd_same, fun b hb => upd_ne hb⟩ ?_ ?_⟩
      · rintro k H4 hk ⟨h1, h2⟩
        refine ⟨rfl, _, rfl, _, rfl, rfl, _, h1, ?_, ?_, fun b hb => by rw [upd_ne hb]; exact h2 b hb⟩
        · rw [List.length_map, List.length_map, List.length_range]
          exact small1000 (by omega)
        · rw [upd_same, List.range_succ, List.map_append, List.map_append]
          congr 3
          exact congrArg (fun z => [V.bl z]) (eqI0 k i).symm
      · rintro H4 ⟨h1, h2⟩
        have s5 : Same H3 H4 := fun b o e => by rw [h2 b (ne_of_none e hD)]; exact e
        have hsh : SeqAt.shaped (.list ((marks i).map PyData.bool)) = true := sh_marks i hi14
        refine ⟨.list ((marks i).map PyData.bool), .list ((marks i).map PyData.bool), .lst (.inl (.inl (s5 _ _ e1))) (dp_bools _), .lst (.inl (.inl h1)) (dp_bools _), hsh, hsh, _, rfl, iteB (c := false) (by rw [SeqAt.eqv_refl _ (SeqAt.canLay_of_shaped hsh)]; rfl) (iteF ?_)⟩
        have s6 : Same H H4 := (s2.trans s4).trans s5
        have ex4 := hex.same s6
        refine ⟨_, rfl, b, c i, fi i, nm, fs, _, _, _, rfl, Ti, ex4, .own _, T.pul i hi14, _, rfl, _, _, rfl, rfl, rfl, _, rfl, iteB (c := false) (ltI i 10) (iteF ?_)⟩
        refine ⟨_, rfl, b, c i, fi i, nm, fs, _, _, _, rfl, Ti, ex4, .ty "ValueError", T.val i hi14, _, rfl, _, _, rfl, rfl, rfl, _, rfl, iteB (c := false) (ltI i 11) (iteF ?_)⟩
        refine ⟨_, rfl, b, c i, fi i, nm, fs, _, _, _, rfl, Ti, ex4, .ty "LookupError", T.lok i hi14, _, rfl, rfl, rfl, _, rfl, iteB (c := false) (eqI i 11) (iteF ?_)⟩
        refine ⟨_, rfl, b, c i, fi i, nm, fs, _, _, _, rfl, Ti, ex4, .ty "OverflowError", T.ovf i hi14, _, rfl, rfl, rfl, _, rfl, iteB (c := false) (eqI i 12) (iteF ?_)⟩
        refine ⟨_, rfl, b, c i, fi i, nm, fs, _, _, _, rfl, Ti, ex4, .ty "RuntimeError", T.run i hi14, _, rfl, rfl, rfl, _, rfl, iteB (c := false) (eqI i 13) (iteF ?_)⟩
        exact ⟨(s3.trans s4).trans s5, _, _, _, rfl⟩
    · rintro σ H1 ⟨s1, y2, y3, y4, rfl⟩
      exact q _ (s0.trans s1)
end
end K01

namespace K01
open PySem PySem.Spec PyProof.Rows L2 TL GG OO
theorem sqe_same {K : PySem.W.Frag} {H H' : Hp} {a : Addr} {xs : List V} (h : SqE K H a xs) (s : Same H H') : SqE K H' a xs := h.elim (fun ⟨ob, e⟩ => .inl ⟨ob, s _ _ e⟩) .inr
/-- the nine things, and what they are as data -/
def datas : List PyData := [.none, .int 5, .str "a", .tuple [.int 1, .int 2], .list [.int 3], .dict [(.str "a", .int 1)], .bool true, .int (10 ^ 30), .str ""]
def things (t l d : Addr) : List V := [.non, .int 5, .str "a", .ref t, .ref l, .ref d, .bl true, .int (10 ^ 30), .str ""]
theorem th_ok {K : PySem.W.Frag} {H : Hp} {t l d : Addr} (ht : H t = some (.tup [.int 1, .int 2])) (hl : H l = some (.lst [.int 3])) (hd : H d = some (.dK [(.inr "a", .int 1)])) : ∀ k : Nat, k < 9 → ∃ v e, (things t l d)[k]? = some v ∧ ThOk K H v e := fun k hk => by
  have go : ∀ (v : V) (e : PyData), ThD K H v e → e ∈ datas → ThOk K H v e := fun v e h1 h2 => by
    have all : ∀ e ∈ datas, e.showable = true ∧ e.depth ≤ 50 ∧ (listText (List.replicate (18 + 1) e.shown)).length ≤ sizeLine ∧ (listText (List.replicate (4 + 1) e.shown)).length ≤ sizeLine := by decide +kernel
    obtain ⟨a1, a2, a3, a4⟩ := all e h2
    exact ⟨h1, a1, a2, a3, a4⟩
  match k, hk with
  | 0, _ => exact ⟨_, _, rfl, go _ .none (.dat .non) (by simp [datas])⟩
  | 1, _ => exact ⟨_, _, rfl, go _ (.int 5) (.dat (.int 5)) (by simp [datas])⟩
  | 2, _ => exact ⟨_, _, rfl, go _ (.str "a") (.dat (.str _)) (by simp [datas])⟩
  | 3, _ => exact ⟨_, _, rfl, go _ (.tuple [.int 1, .int 2]) (.dat (.tup (.inl (.inl ht)) (.cons (.int 1) (.cons (.int 2) .nil)))) (by simp [datas])⟩
  | 4, _ => exact ⟨_, _, rfl, go _ (.list [.int 3]) (.dat (.lst (.inl (.inl hl)) (.cons (.int 3) .nil))) (by simp [datas])⟩
  | 5, _ => exact ⟨_, _, rfl, go _ (.dict [(.str "a", .int 1)]) (.dic hd) (by simp [datas])⟩
  | 6, _ => exact ⟨_, _, rfl, go _ (.bool true) (.dat (.bl true)) (by simp [datas])⟩
  | 7, _ => exact ⟨_, _, rfl, go _ (.int (10 ^ 30)) (.dat (.int _)) (by simp [datas])⟩
  | 8, _ => exact ⟨_, _, rfl, go _ (.str "") (.dat (.str _)) (by simp [datas])⟩
  | n + 9, h => exact absurd h (by omega)
def spLaw (K : PySem.W.Frag) : Sp := fun vs H Q _ => ∃ (a : Addr) (ns : List Int), vs = [.ref a] ∧ SqE K H a (ns.map V.int) ∧ ns.length ≤ 63 ∧ ∀ H', Q (.bl true) H'
section
variable {P : Program} {w : World} {K : PySem.W.Frag} {mg : Str → Option Value} {base : Heap} {c fi : Nat → Addr} {fd : Nat → FuncData} {pe : Addr}
theorem sc_law : FnScope ["_law_script", "_law_cell", "_law_digits", "_law_some", "_law_thing", "_law_other", "_law_made_here"] ["_law_script"] (defScope s_law) := ⟨rfl, rfl, rfl, by decide +kernel, rfl, by decide +kernel, by decide +kernel⟩
theorem ok_l_law {f : Addr} {fd0 : FuncData} (F : Fun K "law" "law" s_law f fd0) (B : Blt K mg)
    {f1 : Addr} {fd1 : FuncData} (F_l_numbers : Fun K "_law_numbers" "_law_numbers" s_l_numbers f1 fd1) (b_l_numbers : Binds K fd1 ["_law_cell", "_law_salt", "_law_sizes"] []) (g_l_numbers : mg "_law_numbers" = some (.ref f1)) (G_l_numbers : FnOk P w K mg base CX0 1 f1 fd1 ["_law_cell", "_law_salt", "_law_sizes"] (spNum K)) {f2 : Addr} {fd2 : FuncData} (F_l_made : Fun K "_law_made" "_law_made" s_l_made f2 fd2) (b_l_made : Binds K fd2 ["_law_thing", "_law_other"] []) (g_l_made : mg "_law_made" = some (.ref f2)) (G_l_made : FnOk P w K mg base CX0 3 f2 fd2 ["_law_thing", "_law_other"] (spMade K c)) {f3 : Addr} {fd3 : FuncData} (F_l_held : Fun K "_law_held" "_law_held" s_l_held f3 fd3) (b_l_held : Binds K fd3 ["_law_made_here", "_law_thing", "_law_other"] []) (g_l_held : mg "_law_held" = some (.ref f3)) (G_l_held : FnG P w K mg base CX0 1 f3 fd3 ["_law_made_here", "_law_thing", "_law_other"] (spHeld K c)) {f4 : Addr} {fd4 : FuncData} (F_l_kinds_right : Fun K "_law_kinds_right" "_law_kinds_right" s_l_kinds_right f4 fd4) (b_l_kinds_right : Binds K fd4 ["_law_made_here"] []) (g_l_kinds_right : mg "_law_kinds_right" = some (.ref f4)) (G_l_kinds_right : FnOk P w K mg base CX0 2 f4 fd4 ["_law_made_here"] (spKinds K c)) :
    FnG P w K mg base CX0 4 f fd0 ["_law_script"] (spLaw K) := by
  refine Fun.okG F sc_law (fun vs H Q E h => ?_) (fun cdv A outer s H vs Q E hr gd h => ?_)
  · obtain ⟨a, ns, rfl, _⟩ := h
    rfl
  · obtain ⟨a, ns, rfl, hE, hlen, q⟩ := h
    refine ⟨_, (pss_cons (ps_set (i := 1) sc_law.nd rfl (.inl rfl) (pe_ix ix_list (pe_op op_catE (pv 0) (pe_lst (pa_cons pe_int pa_nil))) pe_int (fun _ _ => rfl))) 
        (pss_cons (ps_set (i := 2) sc_law.nd rfl (.inl rfl) (pe_call G_l_numbers (hr.mono (by decide)) (by rfl) g_l_numbers F_l_numbers.kp b_l_numbers .nil pass0 (pa_cons (pv 1) (pa_cons pe_int (pa_cons (pe_lst (pa_cons pe_int (pa_cons pe_int pa_nil))) pa_nil))))) 
        (pss_cons (ps_set (i := 3) sc_law.nd rfl (.inl rfl) (pe_lst (pa_cons pe_non (pa_cons pe_int (pa_cons pe_str (pa_cons (pe_tup (pa_cons pe_int (pa_cons pe_int pa_nil))) (pa_cons (pe_lst (pa_cons pe_int pa_nil)) (pa_cons (pe_disp (pps_cons pe_str pe_int pps_nil) rfl rfl (by intro z; cases z) (by decide)) (pa_cons pe_bl (pa_cons (pe_op op_pow pe_int pe_int) (pa_cons pe_str pa_nil))))))))))) 
        (pss_cons (ps_par (i := 4) (j := 5) rfl sc_law.nd rfl rfl (by decide) rfl rfl (pa_cons (pe_ix ix_list (pv 3) (pe_ix ix_list (pv 2) pe_int (fun _ _ => rfl)) (fun _ _ => rfl)) (pa_cons (pe_ix ix_list (pv 3) (pe_ix ix_list (pv 2) pe_int (fun _ _ => rfl)) (fun _ _ => rfl)) pa_nil)) (by rfl)) 
        (pss_cons (ps_set (i := 6) sc_law.nd rfl (.inl rfl) (pe_call G_l_made hr (by rfl) g_l_made F_l_made.kp b_l_made .nil pass0 (pa_cons (pv 4) (pa_cons (pv 5) pa_nil)))) 
        (pss_one (ps_ret (pe_and (pe_callG G_l_held gd (hr.mono (by decide)) (by rfl) g_l_held F_l_held.kp b_l_held pass0 (pa_cons (pv 6) (pa_cons (pv 4) (pa_cons (pv 5) pa_nil)))) (pe_one (pe_call G_l_kinds_right (hr.mono (by decide)) (by rfl) g_l_kinds_right F_l_kinds_right.kp b_l_kinds_right .nil pass0 (pa_cons (pv 6) pa_nil))))))))))), ?_⟩
    obtain ⟨c0, h0⟩ : ∃ c0 : Int, (ns.map V.int ++ [V.int 7])[0]? = some (.int c0) := by
      cases ns with
      | nil => exact ⟨7, rfl⟩
      | cons n r => exact ⟨n, rfl⟩
    refine ⟨_, rfl, (by show 1 ≤ sizeLine; decide), fun l0 n0 => ?_⟩
    have s1 := same_upd (o := .lst [V.int 7]) n0
    have e1 : (upd H l0 (.lst [V.int 7])) l0 = some (.lst [V.int 7]) := upd_same
    generalize upd H l0 (.lst [V.int 7]) = J1 at s1 e1 ⊢
    refine ⟨a, l0, _, _, rfl, rfl, sqe_same hE s1, e1, Nat.le_of_lt (small1000 (by have z : (ns.map V.int).length = ns.length := List.length_map _; show (ns.map V.int).length + 1 ≤ 1000; omega)), fun p1 n1 => ?_⟩
    have s2 := s1.trans (same_upd (o := .lst (ns.map V.int ++ [V.int 7])) n1)
    have e2 : (upd J1 p1 (.lst (ns.map V.int ++ [V.int 7]))) p1 = some (.lst (ns.map V.int ++ [V.int 7])) := upd_same
    generalize upd J1 p1 (.lst (ns.map V.int ++ [V.int 7])) = J2 at s2 e2 ⊢
    refine ⟨p1, _, _, _, rfl, rfl, .inl (.inl e2), atI_nat (j := 0) h0, ?_⟩
    refine ⟨_, rfl, (by show 2 ≤ sizeLine; decide), fun l2 n2 => ?_⟩
    have e3 : (upd J2 l2 (.lst [V.int 9, V.int 9])) l2 = some (.lst [V.int 9, V.int 9]) := upd_same
    generalize upd J2 l2 (.lst [V.int 9, V.int 9]) = J3 at e3 ⊢
    refine ⟨c0, 100, l2, [9, 9], rfl, .inl (.inl e3), ⟨by decide, by decide⟩, by decide, by decide, fun J4 p4 ds s4 _ e4 hl hb => ?_⟩
    obtain ⟨d0, d1, rfl⟩ : ∃ d0 d1 : Int, ds = [d0, d1] := by
      match ds, hl with
      | [d0, d1], _ => exact ⟨d0, d1, rfl⟩
    obtain ⟨b0, b1⟩ := hb 0 9 d0 rfl rfl
    obtain ⟨b2, b3⟩ := hb 1 9 d1 rfl rfl
    obtain ⟨k0, rfl⟩ := Int.eq_ofNat_of_zero_le b0
    obtain ⟨k1, rfl⟩ := Int.eq_ofNat_of_zero_le b2
    refine ⟨(by show 2 ≤ sizeLine; decide), fun t m1 => ?_⟩
    have g1 : (upd J4 t (.tup [V.int 1, V.int 2])) t = some (.tup [V.int 1, V.int 2]) := upd_same
    replace e4 := (same_upd (o := .tup [V.int 1, V.int 2]) m1) _ _ e4
    generalize upd J4 t (.tup [V.int 1, V.int 2]) = J5 at g1 e4 ⊢
    refine ⟨(by show 1 ≤ sizeLine; decide), fun l m2 => ?_⟩
    have g2 : (upd J5 l (.lst [V.int 3])) l = some (.lst [V.int 3]) := upd_same
    replace e4 := (same_upd (o := .lst [V.int 3]) m2) _ _ e4
    replace g1 := (same_upd (o := .lst [V.int 3]) m2) _ _ g1
    generalize upd J5 l (.lst [V.int 3]) = J6 at g1 g2 e4 ⊢
    refine fun d m3 => ⟨upd_same, [(.inr "a", .int 1)], rfl, by decide, ?_⟩
    have s7 : Same J6 (upd (upd J6 d (.dK [])) d (.dK (mergeK [] [(.inr "a", .int 1)]))) := fun b o e => by rw [upd_ne (ne_of_none e m3), upd_ne (ne_of_none e m3)]; exact e
    have g3 : (upd (upd J6 d (.dK [])) d (.dK (mergeK [] [(.inr "a", .int 1)]))) d = some (.dK [(.inr "a", .int 1)]) := upd_same
    generalize upd (upd J6 d (.dK [])) d (.dK (mergeK [] [(.inr "a", .int 1)])) = J7 at s7 g3 ⊢
    replace g1 := s7 _ _ g1
    replace g2 := s7 _ _ g2
    replace e4 := s7 _ _ e4
    have hall := th_ok (K := K) g1 g2 g3
    refine ⟨10, 30, rfl, rfl, ⟨by decide, by decide, by decide⟩, ?_⟩
    refine ⟨(by show 9 ≤ sizeLine; decide), fun l9 m9 => ?_⟩
    have s8 := same_upd (o := .lst (things t l d)) m9
    have e9 : (upd J7 l9 (.lst (things t l d))) l9 = some (.lst (things t l d)) := upd_same
    replace e4 := s8 _ _ e4
    have h10 : (10 : Int) ^ (30 : Int).toNat = 10 ^ 30 := rfl
    show _
    replace e9 : (upd J7 l9 (.lst [V.non, .int 5, .str "a", .ref t, .ref l, .ref d, .bl true, .int ((10 : Int) ^ (30 : Int).toNat), .str ""])) l9 = some (.lst (things t l d)) := e9
    replace e4 : (upd J7 l9 (.lst [V.non, .int 5, .str "a", .ref t, .ref l, .ref d, .bl true, .int ((10 : Int) ^ (30 : Int).toNat), .str ""])) p4 = _ := e4
    replace s8 : Same J7 (upd J7 l9 (.lst [V.non, .int 5, .str "a", .ref t, .ref l, .ref d, .bl true, .int ((10 : Int) ^ (30 : Int).toNat), .str ""])) := s8
    generalize upd J7 l9 (.lst [V.non, .int 5, .str "a", .ref t, .ref l, .ref d, .bl true, .int ((10 : Int) ^ (30 : Int).toNat), .str ""]) = J8 at e9 e4 s8 ⊢
    obtain ⟨v0, x0, i0, o0⟩ := hall k0 (by omega)
    obtain ⟨v1, x1, i1, o1⟩ := hall k1 (by omega)
    refine ⟨_, rfl, _, rfl, p4, _, _, _, rfl, rfl, .inl (.inl e4), atI_nat (j := 0) rfl, l9, _, _, _, rfl, rfl, .inl (.inl e9), atI_nat (j := k0) i0, ?_⟩
    refine ⟨_, rfl, _, rfl, p4, _, _, _, rfl, rfl, .inl (.inl e4), atI_nat (j := 1) rfl, l9, _, _, _, rfl, rfl, .inl (.inl e9), atI_nat (j := k1) i1, ?_⟩
    refine ⟨_, _, rfl, ?_⟩
    refine ⟨_, rfl, _, rfl, v0, v1, rfl, fun J9 p9 as s9 e9b hm => ?_⟩
    have up : ∀ {v e}, ThOk K J7 v e → ThOk K J9 v e := fun z => ⟨ThD.same z.th (s8.trans s9), z.sh, z.dp, z.z19, z.z5⟩
    refine ⟨_, rfl, _, rfl, _, rfl, p9, as, v0, v1, x0, x1, rfl, e9b, hm, up o0, up o1, fun J10 s10 => ⟨_, rfl, iteB (c := true) rfl (iteT ?_)⟩⟩
    exact ⟨_, rfl, p9, as, v0, v1, rfl, s10 _ _ e9b, hm.same s10, fun J11 s11 => q _⟩
end
end K01

namespace K01
open PySem PySem.Spec PyProof.Rows L2 TL GG OO
theorem all_mk {l : PySem.W.OpenLaw} {w : World} {K : PySem.W.Frag} {h : Heap} {mg : Str → Option Value} {fa pe C0 C1 C2 C3 C4 C5 C6 C7 C8 C9 C10 C11 C12 C13 g0 g1 g2 g3 g4 g5 g6 g7 g8 g9 g10 g11 g12 g13 M0 M1 M2 M3 M4 M5 M6 M7 M8 M9 M10 M11 M12 M13 f0 f1 f2 f3 f4 f5 : Addr} (X : K.In h) (G : h.Ns mainGlobals mg) (hfa : mg "law" = some (.ref fa))
    {od0 od1 od2 od3 od4 od5 od6 od7 od8 od9 od10 od11 od12 od13 odf0 odf1 odf2 odf3 odf4 odf5 an0 an1 an2 an3 an4 an5 an6 an7 an8 an9 an10 an11 an12 an13 anf0 anf1 anf2 anf3 anf4 anf5 dd0 dd1 dd2 dd3 dd4 dd5 dd6 dd7 dd8 dd9 dd10 dd11 dd12 dd13 : Option Addr} {sl0 sl1 sl2 sl3 sl4 sl5 sl6 sl7 sl8 sl9 sl10 sl11 sl12 sl13 slf0 slf1 slf2 slf3 slf4 slf5 : Array (Option Value)} {oc0 kV0 dc0 pm0 cd0 ct0 oc1 kV1 dc1 pm1 cd1 ct1 oc2 kV2 dc2 pm2 cd2 ct2 oc3 kV3 dc3 pm3 cd3 ct3 oc4 kV4 dc4 pm4 cd4 ct4 oc5 kV5 dc5 pm5 cd5 ct5 oc6 kV6 dc6 pm6 cd6 ct6 oc7 kV7 dc7 pm7 cd7 ct7 oc8 kV8 dc8 pm8 cd8 ct8 oc9 kV9 dc9 pm9 cd9 ct9 oc10 kV10 dc10 pm10 cd10 ct10 oc11 kV11 dc11 pm11 cd11 ct11 oc12 kV12 dc12 pm12 cd12 ct12 oc13 kV13 dc13 pm13 cd13 ct13 ocf0 kVf0 dcf0 pmf0 cdf0 ctf0 ocf1 kVf1 dcf1 pmf1 cdf1 ctf1 ocf2 kVf2 dcf2 pmf2 cdf2 ctf2 ocf3 kVf3 dcf3 pmf3 cdf3 ctf3 ocf4 kVf4 dcf4 pmf4 cdf4 ctf4 ocf5 kVf5 dcf5 pmf5 cdf5 ctf5 : Value}
    {nn0 qq0 nn1 qq1 nn2 qq2 nn3 qq3 nn4 qq4 nn5 qq5 nn6 qq6 nn7 qq7 nn8 qq8 nn9 qq9 nn10 qq10 nn11 qq11 nn12 qq12 nn13 qq13 : Str} {bs0 bs1 bs2 bs3 bs4 bs5 bs6 bs7 bs8 bs9 bs10 bs11 bs12 bs13 : List Value} {sn0 sn1 sn2 sn3 sn4 sn5 sn6 sn7 sn8 sn9 sn10 sn11 sn12 sn13 : List Str} {sb0 sb1 sb2 sb3 sb4 sb5 sb6 sb7 sb8 sb9 sb10 sb11 sb12 sb13 : List Value} {ab0 ab1 ab2 ab3 ab4 ab5 ab6 ab7 ab8 ab9 ab10 ab11 ab12 ab13 : Bool} {co0 co1 co2 co3 co4 co5 co6 co7 co8 co9 co10 co11 co12 co13 : Option Bool} {u0_0 u1_0 u2_0 u3_0 u5_0 u0_1 u1_1 u2_1 u3_1 u5_1 u0_2 u1_2 u2_2 u3_2 u5_2 u0_3 u1_3 u2_3 u3_3 u5_3 u0_4 u1_4 u2_4 u3_4 u5_4 u0_5 u1_5 u2_5 u3_5 u5_5 u0_6 u1_6 u2_6 u3_6 u5_6 u0_7 u1_7 u2_7 u3_7 u5_7 u0_8 u1_8 u2_8 u3_8 u5_8 u0_9 u1_9 u2_9 u3_9 u5_9 u0_10 u1_10 u2_10 u3_10 u5_10 u0_11 u1_11 u2_11 u3_11 u5_11 u0_12 u1_12 u2_12 u3_12 u5_12 u0_13 u1_13 u2_13 u3_13 u5_13 : Option Value}
    (ape : PySem.W.nsIn K mainGlobals "PullError" = some (some (.ref pe)))
    (a0 : PySem.W.nsIn K mainGlobals "InvalidItem" = some (some (.ref C0)))
    (x0 : K.lookup C0 = some (excClassObj nn0 qq0 C0 M0 bs0 (.ref pe :: [.type "ValueError", .type "Exception", .type "BaseException", .type "object"]) true sn0 sb0 ab0 co0 dd0 u0_0 u1_0 u2_0 u3_0 u5_0 "ValueError.__new__"))
    (sa0 : PySem.W.findIn K (.ref C0) "__setattr__" = some (some (.builtin "object.__setattr__")))
    (ex0 : PySem.W.subIn K (.ref C0) (.type "BaseException") = some true)
    (kc0 : PySem.W.keepIn K (.ref C0) = true)
    (ga0 : PySem.W.findIn K (.ref C0) "__getattribute__" = some (some (.builtin "BaseException.__getattribute__")))
    (gg0 : PySem.W.findIn K (.ref C0) "__getattr__" = some none)
    (hd0 : PySem.W.hasDictIn K C0 = true)
    (ii0 : PySem.W.findIn K (.ref C0) "__init__" = some (some (.ref g0)))
    (ti0 : PySem.W.typeIn K (.ref g0) = some (.type "function"))
    (cl0 : PySem.W.findIn K (.ref C0) "__class__" = some (some (.builtin "object.__class__")))
    (mo0 : PySem.W.mroIn K C0 (.type "object") = some true)
    (no0_0 : PySem.W.findIn K (.ref C0) "number" = some none)
    (a1 : PySem.W.nsIn K mainGlobals "InvalidStep" = some (some (.ref C1)))
    (x1 : K.lookup C1 = some (excClassObj nn1 qq1 C1 M1 bs1 (.ref pe :: [.type "ValueError", .type "Exception", .type "BaseException", .type "object"]) true sn1 sb1 ab1 co1 dd1 u0_1 u1_1 u2_1 u3_1 u5_1 "ValueError.__new__"))
    (sa1 : PySem.W.findIn K (.ref C1) "__setattr__" = some (some (.builtin "object.__setattr__")))
    (ex1 : PySem.W.subIn K (.ref C1) (.type "BaseException") = some true)
    (kc1 : PySem.W.keepIn K (.ref C1) = true)
    (ga1 : PySem.W.findIn K (.ref C1) "__getattribute__" = some (some (.builtin "BaseException.__getattribute__")))
    (gg1 : PySem.W.findIn K (.ref C1) "__getattr__" = some none)
    (hd1 : PySem.W.hasDictIn K C1 = true)
    (ii1 : PySem.W.findIn K (.ref C1) "__init__" = some (some (.ref g1)))
    (ti1 : PySem.W.typeIn K (.ref g1) = some (.type "function"))
    (cl1 : PySem.W.findIn K (.ref C1) "__class__" = some (some (.builtin "object.__class__")))
    (mo1 : PySem.W.mroIn K C1 (.type "object") = some true)
    (no1_0 : PySem.W.findIn K (.ref C1) "index" = some none)
    (a2 : PySem.W.nsIn K mainGlobals "InvalidBook" = some (some (.ref C2)))
    (x2 : K.lookup C2 = some (excClassObj nn2 qq2 C2 M2 bs2 (.ref pe :: [.type "ValueError", .type "Exception", .type "BaseException", .type "object"]) true sn2 sb2 ab2 co2 dd2 u0_2 u1_2 u2_2 u3_2 u5_2 "ValueError.__new__"))
    (sa2 : PySem.W.findIn K (.ref C2) "__setattr__" = some (some (.builtin "object.__setattr__")))
    (ex2 : PySem.W.subIn K (.ref C2) (.type "BaseException") = some true)
    (kc2 : PySem.W.keepIn K (.ref C2) = true)
    (ga2 : PySem.W.findIn K (.ref C2) "__getattribute__" = some (some (.builtin "BaseException.__getattribute__")))
    (gg2 : PySem.W.findIn K (.ref C2) "__getattr__" = some none)
    (hd2 : PySem.W.hasDictIn K C2 = true)
    (ii2 : PySem.W.findIn K (.ref C2) "__init__" = some (some (.ref g2)))
    (ti2 : PySem.W.typeIn K (.ref g2) = some (.type "function"))
    (cl2 : PySem.W.findIn K (.ref C2) "__class__" = some (some (.builtin "object.__class__")))
    (mo2 : PySem.W.mroIn K C2 (.type "object") = some true)
    (no2_0 : PySem.W.findIn K (.ref C2) "part" = some none)
    (no2_1 : PySem.W.findIn K (.ref C2) "name" = some none)
    (ty2 : PySem.W.typeIn K (.ref C2) = some (.type "type"))
    (a3 : PySem.W.nsIn K mainGlobals "InvalidState" = some (some (.ref C3)))
    (x3 : K.lookup C3 = some (excClassObj nn3 qq3 C3 M3 bs3 (.ref pe :: [.type "ValueError", .type "Exception", .type "BaseException", .type "object"]) true sn3 sb3 ab3 co3 dd3 u0_3 u1_3 u2_3 u3_3 u5_3 "ValueError.__new__"))
    (sa3 : PySem.W.findIn K (.ref C3) "__setattr__" = some (some (.builtin "object.__setattr__")))
    (ex3 : PySem.W.subIn K (.ref C3) (.type "BaseException") = some true)
    (kc3 : PySem.W.keepIn K (.ref C3) = true)
    (ga3 : PySem.W.findIn K (.ref C3) "__getattribute__" = some (some (.builtin "BaseException.__getattribute__")))
    (gg3 : PySem.W.findIn K (.ref C3) "__getattr__" = some none)
    (hd3 : PySem.W.hasDictIn K C3 = true)
    (ii3 : PySem.W.findIn K (.ref C3) "__init__" = some (some (.ref g3)))
    (ti3 : PySem.W.typeIn K (.ref g3) = some (.type "function"))
    (cl3 : PySem.W.findIn K (.ref C3) "__class__" = some (some (.builtin "object.__class__")))
    (mo3 : PySem.W.mroIn K C3 (.type "object") = some true)
    (no3_0 : PySem.W.findIn K (.ref C3) "value" = some none)
    (a4 : PySem.W.nsIn K mainGlobals "InvalidMove" = some (some (.ref C4)))
    (x4 : K.lookup C4 = some (excClassObj nn4 qq4 C4 M4 bs4 (.ref pe :: [.type "ValueError", .type "Exception", .type "BaseException", .type "object"]) true sn4 sb4 ab4 co4 dd4 u0_4 u1_4 u2_4 u3_4 u5_4 "ValueError.__new__"))
    (sa4 : PySem.W.findIn K (.ref C4) "__setattr__" = some (some (.builtin "object.__setattr__")))
    (ex4 : PySem.W.subIn K (.ref C4) (.type "BaseException") = some true)
    (kc4 : PySem.W.keepIn K (.ref C4) = true)
    (ga4 : PySem.W.findIn K (.ref C4) "__getattribute__" = some (some (.builtin "BaseException.__getattribute__")))
    (gg4 : PySem.W.findIn K (.ref C4) "__getattr__" = some none)
    (hd4 : PySem.W.hasDictIn K C4 = true)
    (ii4 : PySem.W.findIn K (.ref C4) "__init__" = some (some (.ref g4)))
    (ti4 : PySem.W.typeIn K (.ref g4) = some (.type "function"))
    (cl4 : PySem.W.findIn K (.ref C4) "__class__" = some (some (.builtin "object.__class__")))
    (mo4 : PySem.W.mroIn K C4 (.type "object") = some true)
    (no4_0 : PySem.W.findIn K (.ref C4) "move" = some none)
    (a5 : PySem.W.nsIn K mainGlobals "InvalidText" = some (some (.ref C5)))
    (x5 : K.lookup C5 = some (excClassObj nn5 qq5 C5 M5 bs5 (.ref pe :: [.type "ValueError", .type "Exception", .type "BaseException", .type "object"]) true sn5 sb5 ab5 co5 dd5 u0_5 u1_5 u2_5 u3_5 u5_5 "ValueError.__new__"))
    (sa5 : PySem.W.findIn K (.ref C5) "__setattr__" = some (some (.builtin "object.__setattr__")))
    (ex5 : PySem.W.subIn K (.ref C5) (.type "BaseException") = some true)
    (kc5 : PySem.W.keepIn K (.ref C5) = true)
    (ga5 : PySem.W.findIn K (.ref C5) "__getattribute__" = some (some (.builtin "BaseException.__getattribute__")))
    (gg5 : PySem.W.findIn K (.ref C5) "__getattr__" = some none)
    (hd5 : PySem.W.hasDictIn K C5 = true)
    (ii5 : PySem.W.findIn K (.ref C5) "__init__" = some (some (.ref g5)))
    (ti5 : PySem.W.typeIn K (.ref g5) = some (.type "function"))
    (cl5 : PySem.W.findIn K (.ref C5) "__class__" = some (some (.builtin "object.__class__")))
    (mo5 : PySem.W.mroIn K C5 (.type "object") = some true)
    (no5_0 : PySem.W.findIn K (.ref C5) "line" = some none)
    (a6 : PySem.W.nsIn K mainGlobals "InvalidOption" = some (some (.ref C6)))
    (x6 : K.lookup C6 = some (excClassObj nn6 qq6 C6 M6 bs6 (.ref pe :: [.type "ValueError", .type "Exception", .type "BaseException", .type "object"]) true sn6 sb6 ab6 co6 dd6 u0_6 u1_6 u2_6 u3_6 u5_6 "ValueError.__new__"))
    (sa6 : PySem.W.findIn K (.ref C6) "__setattr__" = some (some (.builtin "object.__setattr__")))
    (ex6 : PySem.W.subIn K (.ref C6) (.type "BaseException") = some true)
    (kc6 : PySem.W.keepIn K (.ref C6) = true)
    (ga6 : PySem.W.findIn K (.ref C6) "__getattribute__" = some (some (.builtin "BaseException.__getattribute__")))
    (gg6 : PySem.W.findIn K (.ref C6) "__getattr__" = some none)
    (hd6 : PySem.W.hasDictIn K C6 = true)
    (ii6 : PySem.W.findIn K (.ref C6) "__init__" = some (some (.ref g6)))
    (ti6 : PySem.W.typeIn K (.ref g6) = some (.type "function"))
    (cl6 : PySem.W.findIn K (.ref C6) "__class__" = some (some (.builtin "object.__class__")))
    (mo6 : PySem.W.mroIn K C6 (.type "object") = some true)
    (no6_0 : PySem.W.findIn K (.ref C6) "value" = some none)
    (a7 : PySem.W.nsIn K mainGlobals "InvalidCommand" = some (some (.ref C7)))
    (x7 : K.lookup C7 = some (excClassObj nn7 qq7 C7 M7 bs7 (.ref pe :: [.type "ValueError", .type "Exception", .type "BaseException", .type "object"]) true sn7 sb7 ab7 co7 dd7 u0_7 u1_7 u2_7 u3_7 u5_7 "ValueError.__new__"))
    (sa7 : PySem.W.findIn K (.ref C7) "__setattr__" = some (some (.builtin "object.__setattr__")))
    (ex7 : PySem.W.subIn K (.ref C7) (.type "BaseException") = some true)
    (kc7 : PySem.W.keepIn K (.ref C7) = true)
    (ga7 : PySem.W.findIn K (.ref C7) "__getattribute__" = some (some (.builtin "BaseException.__getattribute__")))
    (gg7 : PySem.W.findIn K (.ref C7) "__getattr__" = some none)
    (hd7 : PySem.W.hasDictIn K C7 = true)
    (ii7 : PySem.W.findIn K (.ref C7) "__init__" = some (some (.ref g7)))
    (ti7 : PySem.W.typeIn K (.ref g7) = some (.type "function"))
    (cl7 : PySem.W.findIn K (.ref C7) "__class__" = some (some (.builtin "object.__class__")))
    (mo7 : PySem.W.mroIn K C7 (.type "object") = some true)
    (no7_0 : PySem.W.findIn K (.ref C7) "word" = some none)
    (a8 : PySem.W.nsIn K mainGlobals "NotRight" = some (some (.ref C8)))
    (x8 : K.lookup C8 = some (excClassObj nn8 qq8 C8 M8 bs8 (.ref pe :: [.type "ValueError", .type "Exception", .type "BaseException", .type "object"]) true sn8 sb8 ab8 co8 dd8 u0_8 u1_8 u2_8 u3_8 u5_8 "ValueError.__new__"))
    (sa8 : PySem.W.findIn K (.ref C8) "__setattr__" = some (some (.builtin "object.__setattr__")))
    (ex8 : PySem.W.subIn K (.ref C8) (.type "BaseException") = some true)
    (kc8 : PySem.W.keepIn K (.ref C8) = true)
    (ga8 : PySem.W.findIn K (.ref C8) "__getattribute__" = some (some (.builtin "BaseException.__getattribute__")))
    (gg8 : PySem.W.findIn K (.ref C8) "__getattr__" = some none)
    (hd8 : PySem.W.hasDictIn K C8 = true)
    (ii8 : PySem.W.findIn K (.ref C8) "__init__" = some (some (.ref g8)))
    (ti8 : PySem.W.typeIn K (.ref g8) = some (.type "function"))
    (cl8 : PySem.W.findIn K (.ref C8) "__class__" = some (some (.builtin "object.__class__")))
    (mo8 : PySem.W.mroIn K C8 (.type "object") = some true)
    (no8_0 : PySem.W.findIn K (.ref C8) "word" = some none)
    (no8_1 : PySem.W.findIn K (.ref C8) "run" = some none)
    (ty8 : PySem.W.typeIn K (.ref C8) = some (.type "type"))
    (a9 : PySem.W.nsIn K mainGlobals "Faulty" = some (some (.ref C9)))
    (x9 : K.lookup C9 = some (excClassObj nn9 qq9 C9 M9 bs9 (.ref pe :: [.type "ValueError", .type "Exception", .type "BaseException", .type "object"]) true sn9 sb9 ab9 co9 dd9 u0_9 u1_9 u2_9 u3_9 u5_9 "ValueError.__new__"))
    (sa9 : PySem.W.findIn K (.ref C9) "__setattr__" = some (some (.builtin "object.__setattr__")))
    (ex9 : PySem.W.subIn K (.ref C9) (.type "BaseException") = some true)
    (kc9 : PySem.W.keepIn K (.ref C9) = true)
    (ga9 : PySem.W.findIn K (.ref C9) "__getattribute__" = some (some (.builtin "BaseException.__getattribute__")))
    (gg9 : PySem.W.findIn K (.ref C9) "__getattr__" = some none)
    (hd9 : PySem.W.hasDictIn K C9 = true)
    (ii9 : PySem.W.findIn K (.ref C9) "__init__" = some (some (.ref g9)))
    (ti9 : PySem.W.typeIn K (.ref g9) = some (.type "function"))
    (cl9 : PySem.W.findIn K (.ref C9) "__class__" = some (some (.builtin "object.__class__")))
    (mo9 : PySem.W.mroIn K C9 (.type "object") = some true)
    (no9_0 : PySem.W.findIn K (.ref C9) "word" = some none)
    (no9_1 : PySem.W.findIn K (.ref C9) "move" = some none)
    (ty9 : PySem.W.typeIn K (.ref C9) = some (.type "type"))
    (a10 : PySem.W.nsIn K mainGlobals "InvalidNumber" = some (some (.ref C10)))
    (x10 : K.lookup C10 = some (excClassObj nn10 qq10 C10 M10 bs10 [.type "ValueError", .type "Exception", .type "BaseException", .type "object"] true sn10 sb10 ab10 co10 dd10 u0_10 u1_10 u2_10 u3_10 u5_10 "ValueError.__new__"))
    (sa10 : PySem.W.findIn K (.ref C10) "__setattr__" = some (some (.builtin "object.__setattr__")))
    (ex10 : PySem.W.subIn K (.ref C10) (.type "BaseException") = some true)
    (kc10 : PySem.W.keepIn K (.ref C10) = true)
    (ga10 : PySem.W.findIn K (.ref C10) "__getattribute__" = some (some (.builtin "BaseException.__getattribute__")))
    (gg10 : PySem.W.findIn K (.ref C10) "__getattr__" = some none)
    (hd10 : PySem.W.hasDictIn K C10 = true)
    (ii10 : PySem.W.findIn K (.ref C10) "__init__" = some (some (.ref g10)))
    (ti10 : PySem.W.typeIn K (.ref g10) = some (.type "function"))
    (cl10 : PySem.W.findIn K (.ref C10) "__class__" = some (some (.builtin "object.__class__")))
    (mo10 : PySem.W.mroIn K C10 (.type "object") = some true)
    (no10_0 : PySem.W.findIn K (.ref C10) "value" = some none)
    (a11 : PySem.W.nsIn K mainGlobals "UnknownName" = some (some (.ref C11)))
    (x11 : K.lookup C11 = some (excClassObj nn11 qq11 C11 M11 bs11 [.type "LookupError", .type "Exception", .type "BaseException", .type "object"] true sn11 sb11 ab11 co11 dd11 u0_11 u1_11 u2_11 u3_11 u5_11 "LookupError.__new__"))
    (sa11 : PySem.W.findIn K (.ref C11) "__setattr__" = some (some (.builtin "object.__setattr__")))
    (ex11 : PySem.W.subIn K (.ref C11) (.type "BaseException") = some true)
    (kc11 : PySem.W.keepIn K (.ref C11) = true)
    (ga11 : PySem.W.findIn K (.ref C11) "__getattribute__" = some (some (.builtin "BaseException.__getattribute__")))
    (gg11 : PySem.W.findIn K (.ref C11) "__getattr__" = some none)
    (hd11 : PySem.W.hasDictIn K C11 = true)
    (ii11 : PySem.W.findIn K (.ref C11) "__init__" = some (some (.ref g11)))
    (ti11 : PySem.W.typeIn K (.ref g11) = some (.type "function"))
    (cl11 : PySem.W.findIn K (.ref C11) "__class__" = some (some (.builtin "object.__class__")))
    (mo11 : PySem.W.mroIn K C11 (.type "object") = some true)
    (no11_0 : PySem.W.findIn K (.ref C11) "name" = some none)
    (a12 : PySem.W.nsIn K mainGlobals "LimitExceeded" = some (some (.ref C12)))
    (x12 : K.lookup C12 = some (excClassObj nn12 qq12 C12 M12 bs12 [.type "OverflowError", .type "ArithmeticError", .type "Exception", .type "BaseException", .type "object"] true sn12 sb12 ab12 co12 dd12 u0_12 u1_12 u2_12 u3_12 u5_12 "OverflowError.__new__"))
    (sa12 : PySem.W.findIn K (.ref C12) "__setattr__" = some (some (.builtin "object.__setattr__")))
    (ex12 : PySem.W.subIn K (.ref C12) (.type "BaseException") = some true)
    (kc12 : PySem.W.keepIn K (.ref C12) = true)
    (ga12 : PySem.W.findIn K (.ref C12) "__getattribute__" = some (some (.builtin "BaseException.__getattribute__")))
    (gg12 : PySem.W.findIn K (.ref C12) "__getattr__" = some none)
    (hd12 : PySem.W.hasDictIn K C12 = true)
    (ii12 : PySem.W.findIn K (.ref C12) "__init__" = some (some (.ref g12)))
    (ti12 : PySem.W.typeIn K (.ref g12) = some (.type "function"))
    (cl12 : PySem.W.findIn K (.ref C12) "__class__" = some (some (.builtin "object.__class__")))
    (mo12 : PySem.W.mroIn K C12 (.type "object") = some true)
    (no12_0 : PySem.W.findIn K (.ref C12) "limit" = some none)
    (a13 : PySem.W.nsIn K mainGlobals "NothingToUndo" = some (some (.ref C13)))
    (x13 : K.lookup C13 = some (excClassObj nn13 qq13 C13 M13 bs13 [.type "RuntimeError", .type "Exception", .type "BaseException", .type "object"] true sn13 sb13 ab13 co13 dd13 u0_13 u1_13 u2_13 u3_13 u5_13 "RuntimeError.__new__"))
    (sa13 : PySem.W.findIn K (.ref C13) "__setattr__" = some (some (.builtin "object.__setattr__")))
    (ex13 : PySem.W.subIn K (.ref C13) (.type "BaseException") = some true)
    (kc13 : PySem.W.keepIn K (.ref C13) = true)
    (ga13 : PySem.W.findIn K (.ref C13) "__getattribute__" = some (some (.builtin "BaseException.__getattribute__")))
    (gg13 : PySem.W.findIn K (.ref C13) "__getattr__" = some none)
    (hd13 : PySem.W.hasDictIn K C13 = true)
    (ii13 : PySem.W.findIn K (.ref C13) "__init__" = some (some (.ref g13)))
    (ti13 : PySem.W.typeIn K (.ref g13) = some (.type "function"))
    (cl13 : PySem.W.findIn K (.ref C13) "__class__" = some (some (.builtin "object.__class__")))
    (mo13 : PySem.W.mroIn K C13 (.type "object") = some true)
    (no13_0 : PySem.W.findIn K (.ref C13) "name" = some none)
    (m0_0 : PySem.W.kitOne K (.ref C0) (.ref C0) = some true)
    (m0_1 : PySem.W.kitOne K (.ref C0) (.ref C1) = some false)
    (m0_2 : PySem.W.kitOne K (.ref C0) (.ref C2) = some false)
    (m0_3 : PySem.W.kitOne K (.ref C0) (.ref C3) = some false)
    (m0_4 : PySem.W.kitOne K (.ref C0) (.ref C4) = some false)
    (m0_5 : PySem.W.kitOne K (.ref C0) (.ref C5) = some false)
    (m0_6 : PySem.W.kitOne K (.ref C0) (.ref C6) = some false)
    (m0_7 : PySem.W.kitOne K (.ref C0) (.ref C7) = some false)
    (m0_8 : PySem.W.kitOne K (.ref C0) (.ref C8) = some false)
    (m0_9 : PySem.W.kitOne K (.ref C0) (.ref C9) = some false)
    (m0_10 : PySem.W.kitOne K (.ref C0) (.ref C10) = some false)
    (m0_11 : PySem.W.kitOne K (.ref C0) (.ref C11) = some false)
    (m0_12 : PySem.W.kitOne K (.ref C0) (.ref C12) = some false)
    (m0_13 : PySem.W.kitOne K (.ref C0) (.ref C13) = some false)
    (mp0 : PySem.W.kitOne K (.ref C0) (.ref pe) = some true)
    (mV0 : PySem.W.kitOne K (.ref C0) (.type "ValueError") = some true)
    (mL0 : PySem.W.kitOne K (.ref C0) (.type "LookupError") = some false)
    (mO0 : PySem.W.kitOne K (.ref C0) (.type "OverflowError") = some false)
    (mR0 : PySem.W.kitOne K (.ref C0) (.type "RuntimeError") = some false)
    (m1_0 : PySem.W.kitOne K (.ref C1) (.ref C0) = some false)
    (m1_1 : PySem.W.kitOne K (.ref C1) (.ref C1) = some true)
    (m1_2 : PySem.W.kitOne K (.ref C1) (.ref C2) = some false)
    (m1_3 : PySem.W.kitOne K (.ref C1) (.ref C3) = some false)
    (m1_4 : PySem.W.kitOne K (.ref C1) (.ref C4) = some false)
    (m1_5 : PySem.W.kitOne K (.ref C1) (.ref C5) = some false)
    (m1_6 : PySem.W.kitOne K (.ref C1) (.ref C6) = some false)
    (m1_7 : PySem.W.kitOne K (.ref C1) (.ref C7) = some false)
    (m1_8 : PySem.W.kitOne K (.ref C1) (.ref C8) = some false)
    (m1_9 : PySem.W.kitOne K (.ref C1) (.ref C9) = some false)
    (m1_10 : PySem.W.kitOne K (.ref C1) (.ref C10) = some false)
    (m1_11 : PySem.W.kitOne K (.ref C1) (.ref C11) = some false)
    (m1_12 : PySem.W.kitOne K (.ref C1) (.ref C12) = some false)
    (m1_13 : PySem.W.kitOne K (.ref C1) (.ref C13) = some false)
    (mp1 : PySem.W.kitOne K (.ref C1) (.ref pe) = some true)
    (mV1 : PySem.W.kitOne K (.ref C1) (.type "ValueError") = some true)
    (mL1 : PySem.W.kitOne K (.ref C1) (.type "LookupError") = some false)
    (mO1 : PySem.W.kitOne K (.ref C1) (.type "OverflowError") = some false)
    (mR1 : PySem.W.kitOne K (.ref C1) (.type "RuntimeError") = some false)
    (m2_0 : PySem.W.kitOne K (.ref C2) (.ref C0) = some false)
    (m2_1 : PySem.W.kitOne K (.ref C2) (.ref C1) = some false)
    (m2_2 : PySem.W.kitOne K (.ref C2) (.ref C2) = some true)
    (m2_3 : PySem.W.kitOne K (.ref C2) (.ref C3) = some false)
    (m2_4 : PySem.W.kitOne K (.ref C2) (.ref C4) = some false)
    (m2_5 : PySem.W.kitOne K (.ref C2) (.ref C5) = some false)
    (m2_6 : PySem.W.kitOne K (.ref C2) (.ref C6) = some false)
    (m2_7 : PySem.W.kitOne K (.ref C2) (.ref C7) = some false)
    (m2_8 : PySem.W.kitOne K (.ref C2) (.ref C8) = some false)
    (m2_9 : PySem.W.kitOne K (.ref C2) (.ref C9) = some false)
    (m2_10 : PySem.W.kitOne K (.ref C2) (.ref C10) = some false)
    (m2_11 : PySem.W.kitOne K (.ref C2) (.ref C11) = some false)
    (m2_12 : PySem.W.kitOne K (.ref C2) (.ref C12) = some false)
    (m2_13 : PySem.W.kitOne K (.ref C2) (.ref C13) = some false)
    (mp2 : PySem.W.kitOne K (.ref C2) (.ref pe) = some true)
    (mV2 : PySem.W.kitOne K (.ref C2) (.type "ValueError") = some true)
    (mL2 : PySem.W.kitOne K (.ref C2) (.type "LookupError") = some false)
    (mO2 : PySem.W.kitOne K (.ref C2) (.type "OverflowError") = some false)
    (mR2 : PySem.W.kitOne K (.ref C2) (.type "RuntimeError") = some false)
    (m3_0 : PySem.W.kitOne K (.ref C3) (.ref C0) = some false)
    (m3_1 : PySem.W.kitOne K (.ref C3) (.ref C1) = some false)
    (m3_2 : PySem.W.kitOne K (.ref C3) (.ref C2) = some false)
    (m3_3 : PySem.W.kitOne K (.ref C3) (.ref C3) = some true)
    (m3_4 : PySem.W.kitOne K (.ref C3) (.ref C4) = some false)
    (m3_5 : PySem.W.kitOne K (.ref C3) (.ref C5) = some false)
    (m3_6 : PySem.W.kitOne K (.ref C3) (.ref C6) = some false)
    (m3_7 : PySem.W.kitOne K (.ref C3) (.ref C7) = some false)
    (m3_8 : PySem.W.kitOne K (.ref C3) (.ref C8) = some false)
    (m3_9 : PySem.W.kitOne K (.ref C3) (.ref C9) = some false)
    (m3_10 : PySem.W.kitOne K (.ref C3) (.ref C10) = some false)
    (m3_11 : PySem.W.kitOne K (.ref C3) (.ref C11) = some false)
    (m3_12 : PySem.W.kitOne K (.ref C3) (.ref C12) = some false)
    (m3_13 : PySem.W.kitOne K (.ref C3) (.ref C13) = some false)
    (mp3 : PySem.W.kitOne K (.ref C3) (.ref pe) = some true)
    (mV3 : PySem.W.kitOne K (.ref C3) (.type "ValueError") = some true)
    (mL3 : PySem.W.kitOne K (.ref C3) (.type "LookupError") = some false)
    (mO3 : PySem.W.kitOne K (.ref C3) (.type "OverflowError") = some false)
    (mR3 : PySem.W.kitOne K (.ref C3) (.type "RuntimeError") = some false)
    (m4_0 : PySem.W.kitOne K (.ref C4) (.ref C0) = some false)
    (m4_1 : PySem.W.kitOne K (.ref C4) (.ref C1) = some false)
    (m4_2 : PySem.W.kitOne K (.ref C4) (.ref C2) = some false)
    (m4_3 : PySem.W.kitOne K (.ref C4) (.ref C3) = some false)
    (m4_4 : PySem.W.kitOne K (.ref C4) (.ref C4) = some true)
    (m4_5 : PySem.W.kitOne K (.ref C4) (.ref C5) = some false)
    (m4_6 : PySem.W.kitOne K (.ref C4) (.ref C6) = some false)
    (m4_7 : PySem.W.kitOne K (.ref C4) (.ref C7) = some false)
    (m4_8 : PySem.W.kitOne K (.ref C4) (.ref C8) = some false)
    (m4_9 : PySem.W.kitOne K (.ref C4) (.ref C9) = some false)
    (m4_10 : PySem.W.kitOne K (.ref C4) (.ref C10) = some false)
    (m4_11 : PySem.W.kitOne K (.ref C4) (.ref C11) = some false)
    (m4_12 : PySem.W.kitOne K (.ref C4) (.ref C12) = some false)
    (m4_13 : PySem.W.kitOne K (.ref C4) (.ref C13) = some false)
    (mp4 : PySem.W.kitOne K (.ref C4) (.ref pe) = some true)
    (mV4 : PySem.W.kitOne K (.ref C4) (.type "ValueError") = some true)
    (mL4 : PySem.W.kitOne K (.ref C4) (.type "LookupError") = some false)
    (mO4 : PySem.W.kitOne K (.ref C4) (.type "OverflowError") = some false)
    (mR4 : PySem.W.kitOne K (.ref C4) (.type "RuntimeError") = some false)
    (m5_0 : PySem.W.kitOne K (.ref C5) (.ref C0) = some false)
    (m5_1 : PySem.W.kitOne K (.ref C5) (.ref C1) = some false)
    (m5_2 : PySem.W.kitOne K (.ref C5) (.ref C2) = some false)
    (m5_3 : PySem.W.kitOne K (.ref C5) (.ref C3) = some false)
    (m5_4 : PySem.W.kitOne K (.ref C5) (.ref C4) = some false)
    (m5_5 : PySem.W.kitOne K (.ref C5) (.ref C5) = some true)
    (m5_6 : PySem.W.kitOne K (.ref C5) (.ref C6) = some false)
    (m5_7 : PySem.W.kitOne K (.ref C5) (.ref C7) = some false)
    (m5_8 : PySem.W.kitOne K (.ref C5) (.ref C8) = some false)
    (m5_9 : PySem.W.kitOne K (.ref C5) (.ref C9) = some false)
    (m5_10 : PySem.W.kitOne K (.ref C5) (.ref C10) = some false)
    (m5_11 : PySem.W.kitOne K (.ref C5) (.ref C11) = some false)
    (m5_12 : PySem.W.kitOne K (.ref C5) (.ref C12) = some false)
    (m5_13 : PySem.W.kitOne K (.ref C5) (.ref C13) = some false)
    (mp5 : PySem.W.kitOne K (.ref C5) (.ref pe) = some true)
    (mV5 : PySem.W.kitOne K (.ref C5) (.type "ValueError") = some true)
    (mL5 : PySem.W.kitOne K (.ref C5) (.type "LookupError") = some false)
    (mO5 : PySem.W.kitOne K (.ref C5) (.type "OverflowError") = some false)
    (mR5 : PySem.W.kitOne K (.ref C5) (.type "RuntimeError") = some false)
    (m6_0 : PySem.W.kitOne K (.ref C6) (.ref C0) = some false)
    (m6_1 : PySem.W.kitOne K (.ref C6) (.ref C1) = some false)
    (m6_2 : PySem.W.kitOne K (.ref C6) (.ref C2) = some false)
    (m6_3 : PySem.W.kitOne K (.ref C6) (.ref C3) = some false)
    (m6_4 : PySem.W.kitOne K (.ref C6) (.ref C4) = some false)
    (m6_5 : PySem.W.kitOne K (.ref C6) (.ref C5) = some false)
    (m6_6 : PySem.W.kitOne K (.ref C6) (.ref C6) = some true)
    (m6_7 : PySem.W.kitOne K (.ref C6) (.ref C7) = some false)
    (m6_8 : PySem.W.kitOne K (.ref C6) (.ref C8) = some false)
    (m6_9 : PySem.W.kitOne K (.ref C6) (.ref C9) = some false)
    (m6_10 : PySem.W.kitOne K (.ref C6) (.ref C10) = some false)
    (m6_11 : PySem.W.kitOne K (.ref C6) (.ref C11) = some false)
    (m6_12 : PySem.W.kitOne K (.ref C6) (.ref C12) = some false)
    (m6_13 : PySem.W.kitOne K (.ref C6) (.ref C13) = some false)
    (mp6 : PySem.W.kitOne K (.ref C6) (.ref pe) = some true)
    (mV6 : PySem.W.kitOne K (.ref C6) (.type "ValueError") = some true)
    (mL6 : PySem.W.kitOne K (.ref C6) (.type "LookupError") = some false)
    (mO6 : PySem.W.kitOne K (.ref C6) (.type "OverflowError") = some false)
    (mR6 : PySem.W.kitOne K (.ref C6) (.type "RuntimeError") = some false)
    (m7_0 : PySem.W.kitOne K (.ref C7) (.ref C0) = some false)
    (m7_1 : PySem.W.kitOne K (.ref C7) (.ref C1) = some false)
    (m7_2 : PySem.W.kitOne K (.ref C7) (.ref C2) = some false)
    (m7_3 : PySem.W.kitOne K (.ref C7) (.ref C3) = some false)
    (m7_4 : PySem.W.kitOne K (.ref C7) (.ref C4) = some false)
    (m7_5 : PySem.W.kitOne K (.ref C7) (.ref C5) = some false)
    (m7_6 : PySem.W.kitOne K (.ref C7) (.ref C6) = some false)
    (m7_7 : PySem.W.kitOne K (.ref C7) (.ref C7) = some true)
    (m7_8 : PySem.W.kitOne K (.ref C7) (.ref C8) = some false)
    (m7_9 : PySem.W.kitOne K (.ref C7) (.ref C9) = some false)
    (m7_10 : PySem.W.kitOne K (.ref C7) (.ref C10) = some false)
    (m7_11 : PySem.W.kitOne K (.ref C7) (.ref C11) = some false)
    (m7_12 : PySem.W.kitOne K (.ref C7) (.ref C12) = some false)
    (m7_13 : PySem.W.kitOne K (.ref C7) (.ref C13) = some false)
    (mp7 : PySem.W.kitOne K (.ref C7) (.ref pe) = some true)
    (mV7 : PySem.W.kitOne K (.ref C7) (.type "ValueError") = some true)
    (mL7 : PySem.W.kitOne K (.ref C7) (.type "LookupError") = some false)
    (mO7 : PySem.W.kitOne K (.ref C7) (.type "OverflowError") = some false)
    (mR7 : PySem.W.kitOne K (.ref C7) (.type "RuntimeError") = some false)
    (m8_0 : PySem.W.kitOne K (.ref C8) (.ref C0) = some false)
    (m8_1 : PySem.W.kitOne K (.ref C8) (.ref C1) = some false)
    (m8_2 : PySem.W.kitOne K (.ref C8) (.ref C2) = some false)
    (m8_3 : PySem.W.kitOne K (.ref C8) (.ref C3) = some false)
    (m8_4 : PySem.W.kitOne K (.ref C8) (.ref C4) = some false)
    (m8_5 : PySem.W.kitOne K (.ref C8) (.ref C5) = some false)
    (m8_6 : PySem.W.kitOne K (.ref C8) (.ref C6) = some false)
    (m8_7 : PySem.W.kitOne K (.ref C8) (.ref C7) = some false)
    (m8_8 : PySem.W.kitOne K (.ref C8) (.ref C8) = some true)
    (m8_9 : PySem.W.kitOne K (.ref C8) (.ref C9) = some false)
    (m8_10 : PySem.W.kitOne K (.ref C8) (.ref C10) = some false)
    (m8_11 : PySem.W.kitOne K (.ref C8) (.ref C11) = some false)
    (m8_12 : PySem.W.kitOne K (.ref C8) (.ref C12) = some false)
    (m8_13 : PySem.W.kitOne K (.ref C8) (.ref C13) = some false)
    (mp8 : PySem.W.kitOne K (.ref C8) (.ref pe) = some true)
    (mV8 : PySem.W.kitOne K (.ref C8) (.type "ValueError") = some true)
    (mL8 : PySem.W.kitOne K (.ref C8) (.type "LookupError") = some false)
    (mO8 : PySem.W.kitOne K (.ref C8) (.type "OverflowError") = some false)
    (mR8 : PySem.W.kitOne K (.ref C8) (.type "RuntimeError") = some false)
    (m9_0 : PySem.W.kitOne K (.ref C9) (.ref C0) = some false)
    (m9_1 : PySem.W.kitOne K (.ref C9) (.ref C1) = some false)
    (m9_2 : PySem.W.kitOne K (.ref C9) (.ref C2) = some false)
    (m9_3 : PySem.W.kitOne K (.ref C9) (.ref C3) = some false)
    (m9_4 : PySem.W.kitOne K (.ref C9) (.ref C4) = some false)
    (m9_5 : PySem.W.kitOne K (.ref C9) (.ref C5) = some false)
    (m9_6 : PySem.W.kitOne K (.ref C9) (.ref C6) = some false)
    (m9_7 : PySem.W.kitOne K (.ref C9) (.ref C7) = some false)
    (m9_8 : PySem.W.kitOne K (.ref C9) (.ref C8) = some false)
    (m9_9 : PySem.W.kitOne K (.ref C9) (.ref C9) = some true)
    (m9_10 : PySem.W.kitOne K (.ref C9) (.ref C10) = some false)
    (m9_11 : PySem.W.kitOne K (.ref C9) (.ref C11) = some false)
    (m9_12 : PySem.W.kitOne K (.ref C9) (.ref C12) = some false)
    (m9_13 : PySem.W.kitOne K (.ref C9) (.ref C13) = some false)
    (mp9 : PySem.W.kitOne K (.ref C9) (.ref pe) = some true)
    (mV9 : PySem.W.kitOne K (.ref C9) (.type "ValueError") = some true)
    (mL9 : PySem.W.kitOne K (.ref C9) (.type "LookupError") = some false)
    (mO9 : PySem.W.kitOne K (.ref C9) (.type "OverflowError") = some false)
    (mR9 : PySem.W.kitOne K (.ref C9) (.type "RuntimeError") = some false)
    (m10_0 : PySem.W.kitOne K (.ref C10) (.ref C0) = some false)
    (m10_1 : PySem.W.kitOne K (.ref C10) (.ref C1) = some false)
    (m10_2 : PySem.W.kitOne K (.ref C10) (.ref C2) = some false)
    (m10_3 : PySem.W.kitOne K (.ref C10) (.ref C3) = some false)
    (m10_4 : PySem.W.kitOne K (.ref C10) (.ref C4) = some false)
    (m10_5 : PySem.W.kitOne K (.ref C10) (.ref C5) = some false)
    (m10_6 : PySem.W.kitOne K (.ref C10) (.ref C6) = some false)
    (m10_7 : PySem.W.kitOne K (.ref C10) (.ref C7) = some false)
    (m10_8 : PySem.W.kitOne K (.ref C10) (.ref C8) = some false)
    (m10_9 : PySem.W.kitOne K (.ref C10) (.ref C9) = some false)
    (m10_10 : PySem.W.kitOne K (.ref C10) (.ref C10) = some true)
    (m10_11 : PySem.W.kitOne K (.ref C10) (.ref C11) = some false)
    (m10_12 : PySem.W.kitOne K (.ref C10) (.ref C12) = some false)
    (m10_13 : PySem.W.kitOne K (.ref C10) (.ref C13) = some false)
    (mp10 : PySem.W.kitOne K (.ref C10) (.ref pe) = some false)
    (mV10 : PySem.W.kitOne K (.ref C10) (.type "ValueError") = some true)
    (mL10 : PySem.W.kitOne K (.ref C10) (.type "LookupError") = some false)
    (mO10 : PySem.W.kitOne K (.ref C10) (.type "OverflowError") = some false)
    (mR10 : PySem.W.kitOne K (.ref C10) (.type "RuntimeError") = some false)
    (m11_0 : PySem.W.kitOne K (.ref C11) (.ref C0) = some false)
    (m11_1 : PySem.W.kitOne K (.ref C11) (.ref C1) = some false)
    (m11_2 : PySem.W.kitOne K (.ref C11) (.ref C2) = some false)
    (m11_3 : PySem.W.kitOne K (.ref C11) (.ref C3) = some false)
    (m11_4 : PySem.W.kitOne K (.ref C11) (.ref C4) = some false)
    (m11_5 : PySem.W.kitOne K (.ref C11) (.ref C5) = some false)
    (m11_6 : PySem.W.kitOne K (.ref C11) (.ref C6) = some false)
    (m11_7 : PySem.W.kitOne K (.ref C11) (.ref C7) = some false)
    (m11_8 : PySem.W.kitOne K (.ref C11) (.ref C8) = some false)
    (m11_9 : PySem.W.kitOne K (.ref C11) (.ref C9) = some false)
    (m11_10 : PySem.W.kitOne K (.ref C11) (.ref C10) = some false)
    (m11_11 : PySem.W.kitOne K (.ref C11) (.ref C11) = some true)
    (m11_12 : PySem.W.kitOne K (.ref C11) (.ref C12) = some false)
    (m11_13 : PySem.W.kitOne K (.ref C11) (.ref C13) = some false)
    (mp11 : PySem.W.kitOne K (.ref C11) (.ref pe) = some false)
    (mV11 : PySem.W.kitOne K (.ref C11) (.type "ValueError") = some false)
    (mL11 : PySem.W.kitOne K (.ref C11) (.type "LookupError") = some true)
    (mO11 : PySem.W.kitOne K (.ref C11) (.type "OverflowError") = some false)
    (mR11 : PySem.W.kitOne K (.ref C11) (.type "RuntimeError") = some false)
    (m12_0 : PySem.W.kitOne K (.ref C12) (.ref C0) = some false)
    (m12_1 : PySem.W.kitOne K (.ref C12) (.ref C1) = some false)
    (m12_2 : PySem.W.kitOne K (.ref C12) (.ref C2) = some false)
    (m12_3 : PySem.W.kitOne K (.ref C12) (.ref C3) = some false)
    (m12_4 : PySem.W.kitOne K (.ref C12) (.ref C4) = some false)
    (m12_5 : PySem.W.kitOne K (.ref C12) (.ref C5) = some false)
    (m12_6 : PySem.W.kitOne K (.ref C12) (.ref C6) = some false)
    (m12_7 : PySem.W.kitOne K (.ref C12) (.ref C7) = some false)
    (m12_8 : PySem.W.kitOne K (.ref C12) (.ref C8) = some false)
    (m12_9 : PySem.W.kitOne K (.ref C12) (.ref C9) = some false)
    (m12_10 : PySem.W.kitOne K (.ref C12) (.ref C10) = some false)
    (m12_11 : PySem.W.kitOne K (.ref C12) (.ref C11) = some false)
    (m12_12 : PySem.W.kitOne K (.ref C12) (.ref C12) = some true)
    (m12_13 : PySem.W.kitOne K (.ref C12) (.ref C13) = some false)
    (mp12 : PySem.W.kitOne K (.ref C12) (.ref pe) = some false)
    (mV12 : PySem.W.kitOne K (.ref C12) (.type "ValueError") = some false)
    (mL12 : PySem.W.kitOne K (.ref C12) (.type "LookupError") = some false)
    (mO12 : PySem.W.kitOne K (.ref C12) (.type "OverflowError") = some true)
    (mR12 : PySem.W.kitOne K (.ref C12) (.type "RuntimeError") = some false)
    (m13_0 : PySem.W.kitOne K (.ref C13) (.ref C0) = some false)
    (m13_1 : PySem.W.kitOne K (.ref C13) (.ref C1) = some false)
    (m13_2 : PySem.W.kitOne K (.ref C13) (.ref C2) = some false)
    (m13_3 : PySem.W.kitOne K (.ref C13) (.ref C3) = some false)
    (m13_4 : PySem.W.kitOne K (.ref C13) (.ref C4) = some false)
    (m13_5 : PySem.W.kitOne K (.ref C13) (.ref C5) = some false)
    (m13_6 : PySem.W.kitOne K (.ref C13) (.ref C6) = some false)
    (m13_7 : PySem.W.kitOne K (.ref C13) (.ref C7) = some false)
    (m13_8 : PySem.W.kitOne K (.ref C13) (.ref C8) = some false)
    (m13_9 : PySem.W.kitOne K (.ref C13) (.ref C9) = some false)
    (m13_10 : PySem.W.kitOne K (.ref C13) (.ref C10) = some false)
    (m13_11 : PySem.W.kitOne K (.ref C13) (.ref C11) = some false)
    (m13_12 : PySem.W.kitOne K (.ref C13) (.ref C12) = some false)
    (m13_13 : PySem.W.kitOne K (.ref C13) (.ref C13) = some true)
    (mp13 : PySem.W.kitOne K (.ref C13) (.ref pe) = some false)
    (mV13 : PySem.W.kitOne K (.ref C13) (.type "ValueError") = some false)
    (mL13 : PySem.W.kitOne K (.ref C13) (.type "LookupError") = some false)
    (mO13 : PySem.W.kitOne K (.ref C13) (.type "OverflowError") = some false)
    (mR13 : PySem.W.kitOne K (.ref C13) (.type "RuntimeError") = some true)
    (dhn : PySem.W.specialIn K (.builtin "object.__class__") "__get__" = some (some (.builtin "getset_descriptor.__get__")))
    (dtk : PySem.W.takesIn K (.builtin "object.__class__") = some true)
    (l_0 : K.lookup g0 = some ⟨oc0, od0, .func (PySem.W.fnOf "__init__" "InvalidItem.__init__" (defArgs si_InvalidItem) (defBody si_InvalidItem) (defScope si_InvalidItem) .none kV0 dc0 pm0 an0 cd0 ct0), sl0⟩)
    (c_0 : PySem.W.codeIn K cd0 "InvalidItem.__init__" = true)
    (k_0 : PySem.W.keepIn K (.ref g0) = true)
    (l_1 : K.lookup g1 = some ⟨oc1, od1, .func (PySem.W.fnOf "__init__" "InvalidStep.__init__" (defArgs si_InvalidStep) (defBody si_InvalidStep) (defScope si_InvalidStep) .none kV1 dc1 pm1 an1 cd1 ct1), sl1⟩)
    (c_1 : PySem.W.codeIn K cd1 "InvalidStep.__init__" = true)
    (k_1 : PySem.W.keepIn K (.ref g1) = true)
    (l_2 : K.lookup g2 = some ⟨oc2, od2, .func (PySem.W.fnOf "__init__" "InvalidBook.__init__" (defArgs si_InvalidBook) (defBody si_InvalidBook) (defScope si_InvalidBook) .none kV2 dc2 pm2 an2 cd2 ct2), sl2⟩)
    (c_2 : PySem.W.codeIn K cd2 "InvalidBook.__init__" = true)
    (k_2 : PySem.W.keepIn K (.ref g2) = true)
    (l_3 : K.lookup g3 = some ⟨oc3, od3, .func (PySem.W.fnOf "__init__" "InvalidState.__init__" (defArgs si_InvalidState) (defBody si_InvalidState) (defScope si_InvalidState) .none kV3 dc3 pm3 an3 cd3 ct3), sl3⟩)
    (c_3 : PySem.W.codeIn K cd3 "InvalidState.__init__" = true)
    (k_3 : PySem.W.keepIn K (.ref g3) = true)
    (l_4 : K.lookup g4 = some ⟨oc4, od4, .func (PySem.W.fnOf "__init__" "InvalidMove.__init__" (defArgs si_InvalidMove) (defBody si_InvalidMove) (defScope si_InvalidMove) .none kV4 dc4 pm4 an4 cd4 ct4), sl4⟩)
    (c_4 : PySem.W.codeIn K cd4 "InvalidMove.__init__" = true)
    (k_4 : PySem.W.keepIn K (.ref g4) = true)
    (l_5 : K.lookup g5 = some ⟨oc5, od5, .func (PySem.W.fnOf "__init__" "InvalidText.__init__" (defArgs si_InvalidText) (defBody si_InvalidText) (defScope si_InvalidText) .none kV5 dc5 pm5 an5 cd5 ct5), sl5⟩)
    (c_5 : PySem.W.codeIn K cd5 "InvalidText.__init__" = true)
    (k_5 : PySem.W.keepIn K (.ref g5) = true)
    (l_6 : K.lookup g6 = some ⟨oc6, od6, .func (PySem.W.fnOf "__init__" "InvalidOption.__init__" (defArgs si_InvalidOption) (defBody si_InvalidOption) (defScope si_InvalidOption) .none kV6 dc6 pm6 an6 cd6 ct6), sl6⟩)
    (c_6 : PySem.W.codeIn K cd6 "InvalidOption.__init__" = true)
    (k_6 : PySem.W.keepIn K (.ref g6) = true)
    (l_7 : K.lookup g7 = some ⟨oc7, od7, .func (PySem.W.fnOf "__init__" "InvalidCommand.__init__" (defArgs si_InvalidCommand) (defBody si_InvalidCommand) (defScope si_InvalidCommand) .none kV7 dc7 pm7 an7 cd7 ct7), sl7⟩)
    (c_7 : PySem.W.codeIn K cd7 "InvalidCommand.__init__" = true)
    (k_7 : PySem.W.keepIn K (.ref g7) = true)
    (l_8 : K.lookup g8 = some ⟨oc8, od8, .func (PySem.W.fnOf "__init__" "NotRight.__init__" (defArgs si_NotRight) (defBody si_NotRight) (defScope si_NotRight) .none kV8 dc8 pm8 an8 cd8 ct8), sl8⟩)
    (c_8 : PySem.W.codeIn K cd8 "NotRight.__init__" = true)
    (k_8 : PySem.W.keepIn K (.ref g8) = true)
    (l_9 : K.lookup g9 = some ⟨oc9, od9, .func (PySem.W.fnOf "__init__" "Faulty.__init__" (defArgs si_Faulty) (defBody si_Faulty) (defScope si_Faulty) .none kV9 dc9 pm9 an9 cd9 ct9), sl9⟩)
    (c_9 : PySem.W.codeIn K cd9 "Faulty.__init__" = true)
    (k_9 : PySem.W.keepIn K (.ref g9) = true)
    (l_10 : K.lookup g10 = some ⟨oc10, od10, .func (PySem.W.fnOf "__init__" "InvalidNumber.__init__" (defArgs si_InvalidNumber) (defBody si_InvalidNumber) (defScope si_InvalidNumber) .none kV10 dc10 pm10 an10 cd10 ct10), sl10⟩)
    (c_10 : PySem.W.codeIn K cd10 "InvalidNumber.__init__" = true)
    (k_10 : PySem.W.keepIn K (.ref g10) = true)
    (l_11 : K.lookup g11 = some ⟨oc11, od11, .func (PySem.W.fnOf "__init__" "UnknownName.__init__" (defArgs si_UnknownName) (defBody si_UnknownName) (defScope si_UnknownName) .none kV11 dc11 pm11 an11 cd11 ct11), sl11⟩)
    (c_11 : PySem.W.codeIn K cd11 "UnknownName.__init__" = true)
    (k_11 : PySem.W.keepIn K (.ref g11) = true)
    (l_12 : K.lookup g12 = some ⟨oc12, od12, .func (PySem.W.fnOf "__init__" "LimitExceeded.__init__" (defArgs si_LimitExceeded) (defBody si_LimitExceeded) (defScope si_LimitExceeded) .none kV12 dc12 pm12 an12 cd12 ct12), sl12⟩)
    (c_12 : PySem.W.codeIn K cd12 "LimitExceeded.__init__" = true)
    (k_12 : PySem.W.keepIn K (.ref g12) = true)
    (l_13 : K.lookup g13 = some ⟨oc13, od13, .func (PySem.W.fnOf "__init__" "NothingToUndo.__init__" (defArgs si_NothingToUndo) (defBody si_NothingToUndo) (defScope si_NothingToUndo) .none kV13 dc13 pm13 an13 cd13 ct13), sl13⟩)
    (c_13 : PySem.W.codeIn K cd13 "NothingToUndo.__init__" = true)
    (k_13 : PySem.W.keepIn K (.ref g13) = true)
    (n_f0 : PySem.W.nsIn K mainGlobals "_law_numbers" = some (some (.ref f0)))
    (l_f0 : K.lookup f0 = some ⟨ocf0, odf0, .func (PySem.W.fnOf "_law_numbers" "_law_numbers" (defArgs s_l_numbers) (defBody s_l_numbers) (defScope s_l_numbers) .none kVf0 dcf0 pmf0 anf0 cdf0 ctf0), slf0⟩)
    (c_f0 : PySem.W.codeIn K cdf0 "_law_numbers" = true)
    (k_f0 : PySem.W.keepIn K (.ref f0) = true)
    (n_f1 : PySem.W.nsIn K mainGlobals "_law_made" = some (some (.ref f1)))
    (l_f1 : K.lookup f1 = some ⟨ocf1, odf1, .func (PySem.W.fnOf "_law_made" "_law_made" (defArgs s_l_made) (defBody s_l_made) (defScope s_l_made) .none kVf1 dcf1 pmf1 anf1 cdf1 ctf1), slf1⟩)
    (c_f1 : PySem.W.codeIn K cdf1 "_law_made" = true)
    (k_f1 : PySem.W.keepIn K (.ref f1) = true)
    (n_f2 : PySem.W.nsIn K mainGlobals "_law_held" = some (some (.ref f2)))
    (l_f2 : K.lookup f2 = some ⟨ocf2, odf2, .func (PySem.W.fnOf "_law_held" "_law_held" (defArgs s_l_held) (defBody s_l_held) (defScope s_l_held) .none kVf2 dcf2 pmf2 anf2 cdf2 ctf2), slf2⟩)
    (c_f2 : PySem.W.codeIn K cdf2 "_law_held" = true)
    (k_f2 : PySem.W.keepIn K (.ref f2) = true)
    (n_f3 : PySem.W.nsIn K mainGlobals "_law_marks" = some (some (.ref f3)))
    (l_f3 : K.lookup f3 = some ⟨ocf3, odf3, .func (PySem.W.fnOf "_law_marks" "_law_marks" (defArgs s_l_marks) (defBody s_l_marks) (defScope s_l_marks) .none kVf3 dcf3 pmf3 anf3 cdf3 ctf3), slf3⟩)
    (c_f3 : PySem.W.codeIn K cdf3 "_law_marks" = true)
    (k_f3 : PySem.W.keepIn K (.ref f3) = true)
    (n_f4 : PySem.W.nsIn K mainGlobals "_law_kinds_right" = some (some (.ref f4)))
    (l_f4 : K.lookup f4 = some ⟨ocf4, odf4, .func (PySem.W.fnOf "_law_kinds_right" "_law_kinds_right" (defArgs s_l_kinds_right) (defBody s_l_kinds_right) (defScope s_l_kinds_right) .none kVf4 dcf4 pmf4 anf4 cdf4 ctf4), slf4⟩)
    (c_f4 : PySem.W.codeIn K cdf4 "_law_kinds_right" = true)
    (k_f4 : PySem.W.keepIn K (.ref f4) = true)
    (n_f5 : PySem.W.nsIn K mainGlobals "law" = some (some (.ref f5)))
    (l_f5 : K.lookup f5 = some ⟨ocf5, odf5, .func (PySem.W.fnOf "law" "law" (defArgs s_law) (defBody s_law) (defScope s_law) .none kVf5 dcf5 pmf5 anf5 cdf5 ctf5), slf5⟩)
    (c_f5 : PySem.W.codeIn K cdf5 "law" = true)
    (k_f5 : PySem.W.keepIn K (.ref f5) = true)
    (z_max : PySem.W.nsIn K mainGlobals "max" = some none)
    (z_range : PySem.W.nsIn K mainGlobals "range" = some none)
    (z_len : PySem.W.nsIn K mainGlobals "len" = some none)
    (z_isinstance : PySem.W.nsIn K mainGlobals "isinstance" = some none)
    (z_repr : PySem.W.nsIn K mainGlobals "repr" = some none)
    (z_enumerate : PySem.W.nsIn K mainGlobals "enumerate" = some none)
    (z_ValueError : PySem.W.nsIn K mainGlobals "ValueError" = some none)
    (z_LookupError : PySem.W.nsIn K mainGlobals "LookupError" = some none)
    (z_OverflowError : PySem.W.nsIn K mainGlobals "OverflowError" = some none)
    (z_RuntimeError : PySem.W.nsIn K mainGlobals "RuntimeError" = some none)
    : ∃ fd : FuncData, (∀ (s : Shared) (v : Value), BindsTo s fd ⟨[v], []⟩ [("_law_script", v)]) ∧ ∀ base : Heap, K.In base → base.Ns mainGlobals mg → FnG l.prog w K mg base CX0 4 fa fd ["_law_script"] (spLaw K) := by
  have e := hfa.symm.trans (PySem.W.mg_of X G n_f5)
  cases e
  have Bt : Blt K mg := { m_max := PySem.W.mg_none_of X G z_max, m_range := PySem.W.mg_none_of X G z_range, m_len := PySem.W.mg_none_of X G z_len, m_isinstance := PySem.W.mg_none_of X G z_isinstance, m_repr := PySem.W.mg_none_of X G z_repr, m_enumerate := PySem.W.mg_none_of X G z_enumerate, m_ValueError := PySem.W.mg_none_of X G z_ValueError, m_LookupError := PySem.W.mg_none_of X G z_LookupError, m_OverflowError := PySem.W.mg_none_of X G z_OverflowError, m_RuntimeError := PySem.W.mg_none_of X G z_RuntimeError }
  let c : Nat → Addr := fun i => match i with | 0 => C0 | 1 => C1 | 2 => C2 | 3 => C3 | 4 => C4 | 5 => C5 | 6 => C6 | 7 => C7 | 8 => C8 | 9 => C9 | 10 => C10 | 11 => C11 | 12 => C12 | _ => C13
  let fi : Nat → Addr := fun i => match i with | 0 => g0 | 1 => g1 | 2 => g2 | 3 => g3 | 4 => g4 | 5 => g5 | 6 => g6 | 7 => g7 | 8 => g8 | 9 => g9 | 10 => g10 | 11 => g11 | 12 => g12 | _ => g13
  let fd : Nat → FuncData := fun i => match i with | 0 => (PySem.W.fnOf "__init__" "InvalidItem.__init__" (defArgs si_InvalidItem) (defBody si_InvalidItem) (defScope si_InvalidItem) .none kV0 dc0 pm0 an0 cd0 ct0) | 1 => (PySem.W.fnOf "__init__" "InvalidStep.__init__" (defArgs si_InvalidStep) (defBody si_InvalidStep) (defScope si_InvalidStep) .none kV1 dc1 pm1 an1 cd1 ct1) | 2 => (PySem.W.fnOf "__init__" "InvalidBook.__init__" (defArgs si_InvalidBook) (defBody si_InvalidBook) (defScope si_InvalidBook) .none kV2 dc2 pm2 an2 cd2 ct2) | 3 => (PySem.W.fnOf "__init__" "InvalidState.__init__" (defArgs si_InvalidState) (defBody si_InvalidState) (defScope si_InvalidState) .none kV3 dc3 pm3 an3 cd3 ct3) | 4 => (PySem.W.fnOf "__init__" "InvalidMove.__init__" (defArgs si_InvalidMove) (defBody si_InvalidMove) (defScope si_InvalidMove) .none kV4 dc4 pm4 an4 cd4 ct4) | 5 => (PySem.W.fnOf "__init__" "InvalidText.__init__" (defArgs si_InvalidText) (defBody si_InvalidText) (defScope si_InvalidText) .none kV5 dc5 pm5 an5 cd5 ct5) | 6 => (PySem.W.fnOf "__init__" "InvalidOption.__init__" (defArgs si_InvalidOption) (defBody si_InvalidOption) (defScope si_InvalidOption) .none kV6 dc6 pm6 an6 cd6 ct6) | 7 => (PySem.W.fnOf "__init__" "InvalidCommand.__init__" (defArgs si_InvalidCommand) (defBody si_InvalidCommand) (defScope si_InvalidCommand) .none kV7 dc7 pm7 an7 cd7 ct7) | 8 => (PySem.W.fnOf "__init__" "NotRight.__init__" (defArgs si_NotRight) (defBody si_NotRight) (defScope si_NotRight) .none kV8 dc8 pm8 an8 cd8 ct8) | 9 => (PySem.W.fnOf "__init__" "Faulty.__init__" (defArgs si_Faulty) (defBody si_Faulty) (defScope si_Faulty) .none kV9 dc9 pm9 an9 cd9 ct9) | 10 => (PySem.W.fnOf "__init__" "InvalidNumber.__init__" (defArgs si_InvalidNumber) (defBody si_InvalidNumber) (defScope si_InvalidNumber) .none kV10 dc10 pm10 an10 cd10 ct10) | 11 => (PySem.W.fnOf "__init__" "UnknownName.__init__" (defArgs si_UnknownName) (defBody si_UnknownName) (defScope si_UnknownName) .none kV11 dc11 pm11 an11 cd11 ct11) | 12 => (PySem.W.fnOf "__init__" "LimitExceeded.__init__" (defArgs si_LimitExceeded) (defBody si_LimitExceeded) (defScope si_LimitExceeded) .none kV12 dc12 pm12 an12 cd12 ct12) | _ => (PySem.W.fnOf "__init__" "NothingToUndo.__init__" (defArgs si_NothingToUndo) (defBody si_NothingToUndo) (defScope si_NothingToUndo) .none kV13 dc13 pm13 an13 cd13 ct13)
  have T0 : ExB K mg "InvalidItem" C0 g0 := { g := PySem.W.mg_of X G a0, cls := ⟨_, _, _, _, _, _, _, _, _, _, _, _, _, _, _, _, _, _, _, x0, (rfl : PySem.W.excTail [.type "ValueError", .type "Exception", .type "BaseException", .type "object"] _ = true), PySem.F.excBase_ValueError, fun self => PySem.F.store_ValueError.passes self, by decide⟩, sa := sa0, ex := ex0, kC := kc0, ga := ga0, gg := gg0, hd := hd0, i := ii0, t := ti0, cl := cl0, mo := mo0 }
  have T1 : ExB K mg "InvalidStep" C1 g1 := { g := PySem.W.mg_of X G a1, cls := ⟨_, _, _, _, _, _, _, _, _, _, _, _, _, _, _, _, _, _, _, x1, (rfl : PySem.W.excTail [.type "ValueError", .type "Exception", .type "BaseException", .type "object"] _ = true), PySem.F.excBase_ValueError, fun self => PySem.F.store_ValueError.passes self, by decide⟩, sa := sa1, ex := ex1, kC := kc1, ga := ga1, gg := gg1, hd := hd1, i := ii1, t := ti1, cl := cl1, mo := mo1 }
  have T2 : ExB K mg "InvalidBook" C2 g2 := { g := PySem.W.mg_of X G a2, cls := ⟨_, _, _, _, _, _, _, _, _, _, _, _, _, _, _, _, _, _, _, x2, (rfl : PySem.W.excTail [.type "ValueError", .type "Exception", .type "BaseException", .type "object"] _ = true), PySem.F.excBase_ValueError, fun self => PySem.F.store_ValueError.passes self, by decide⟩, sa := sa2, ex := ex2, kC := kc2, ga := ga2, gg := gg2, hd := hd2, i := ii2, t := ti2, cl := cl2, mo := mo2 }
  have T3 : ExB K mg "InvalidState" C3 g3 := { g := PySem.W.mg_of X G a3, cls := ⟨_, _, _, _, _, _, _, _, _, _, _, _, _, _, _, _, _, _, _, x3, (rfl : PySem.W.excTail [.type "ValueError", .type "Exception", .type "BaseException", .type "object"] _ = true), PySem.F.excBase_ValueError, fun self => PySem.F.store_ValueError.passes self, by decide⟩, sa := sa3, ex := ex3, kC := kc3, ga := ga3, gg := gg3, hd := hd3, i := ii3, t := ti3, cl := cl3, mo := mo3 }
  have T4 : ExB K mg "InvalidMove" C4 g4 := { g := PySem.W.mg_of X G a4, cls := ⟨_, _, _, _, _, _, _, _, _, _, _, _, _, _, _, _, _, _, _, x4, (rfl : PySem.W.excTail [.type "ValueError", .type "Exception", .type "BaseException", .type "object"] _ = true), PySem.F.excBase_ValueError, fun self => PySem.F.store_ValueError.passes self, by decide⟩, sa := sa4, ex := ex4, kC := kc4, ga := ga4, gg := gg4, hd := hd4, i := ii4, t := ti4, cl := cl4, mo := mo4 }
  have T5 : ExB K mg "InvalidText" C5 g5 := { g := PySem.W.mg_of X G a5, cls := ⟨_, _, _, _, _, _, _, _, _, _, _, _, _, _, _, _, _, _, _, x5, (rfl : PySem.W.excTail [.type "ValueError", .type "Exception", .type "BaseException", .type "object"] _ = true), PySem.F.excBase_ValueError, fun self => PySem.F.store_ValueError.passes self, by decide⟩, sa := sa5, ex := ex5, kC := kc5, ga := ga5, gg := gg5, hd := hd5, i := ii5, t := ti5, cl := cl5, mo := mo5 }
  have T6 : ExB K mg "InvalidOption" C6 g6 := { g := PySem.W.mg_of X G a6, cls := ⟨_, _, _, _, _, _, _, _, _, _, _, _, _, _, _, _, _, _, _, x6, (rfl : PySem.W.excTail [.type "ValueError", .type "Exception", .type "BaseException", .type "object"] _ = true), PySem.F.excBase_ValueError, fun self => PySem.F.store_ValueError.passes self, by decide⟩, sa := sa6, ex := ex6, kC := kc6, ga := ga6, gg := gg6, hd := hd6, i := ii6, t := ti6, cl := cl6, mo := mo6 }
  have T7 : ExB K mg "InvalidCommand" C7 g7 := { g := PySem.W.mg_of X G a7, cls := ⟨_, _, _, _, _, _, _, _, _, _, _, _, _, _, _, _, _, _, _, x7, (rfl : PySem.W.excTail [.type "ValueError", .type "Exception", .type "BaseException", .type "object"] _ = true), PySem.F.excBase_ValueError, fun self => PySem.F.store_ValueError.passes self, by decide⟩, sa := sa7, ex := ex7, kC := kc7, ga := ga7, gg := gg7, hd := hd7, i := ii7, t := ti7, cl := cl7, mo := mo7 }
  have T8 : ExB K mg "NotRight" C8 g8 := { g := PySem.W.mg_of X G a8, cls := ⟨_, _, _, _, _, _, _, _, _, _, _, _, _, _, _, _, _, _, _, x8, (rfl : PySem.W.excTail [.type "ValueError", .type "Exception", .type "BaseException", .type "object"] _ = true), PySem.F.excBase_ValueError, fun self => PySem.F.store_ValueError.passes self, by decide⟩, sa := sa8, ex := ex8, kC := kc8, ga := ga8, gg := gg8, hd := hd8, i := ii8, t := ti8, cl := cl8, mo := mo8 }
  have T9 : ExB K mg "Faulty" C9 g9 := { g := PySem.W.mg_of X G a9, cls := ⟨_, _, _, _, _, _, _, _, _, _, _, _, _, _, _, _, _, _, _, x9, (rfl : PySem.W.excTail [.type "ValueError", .type "Exception", .type "BaseException", .type "object"] _ = true), PySem.F.excBase_ValueError, fun self => PySem.F.store_ValueError.passes self, by decide⟩, sa := sa9, ex := ex9, kC := kc9, ga := ga9, gg := gg9, hd := hd9, i := ii9, t := ti9, cl := cl9, mo := mo9 }
  have T10 : ExB K mg "InvalidNumber" C10 g10 := { g := PySem.W.mg_of X G a10, cls := ⟨_, _, _, _, _, _, _, _, _, _, _, _, _, _, _, _, _, _, _, x10, (rfl : PySem.W.excTail [.type "ValueError", .type "Exception", .type "BaseException", .type "object"] _ = true), PySem.F.excBase_ValueError, fun self => PySem.F.store_ValueError.passes self, by decide⟩, sa := sa10, ex := ex10, kC := kc10, ga := ga10, gg := gg10, hd := hd10, i := ii10, t := ti10, cl := cl10, mo := mo10 }
  have T11 : ExB K mg "UnknownName" C11 g11 := { g := PySem.W.mg_of X G a11, cls := ⟨_, _, _, _, _, _, _, _, _, _, _, _, _, _, _, _, _, _, _, x11, (rfl : PySem.W.excTail [.type "LookupError", .type "Exception", .type "BaseException", .type "object"] _ = true), PySem.F.excBase_LookupError, fun self => PySem.F.store_LookupError.passes self, by decide⟩, sa := sa11, ex := ex11, kC := kc11, ga := ga11, gg := gg11, hd := hd11, i := ii11, t := ti11, cl := cl11, mo := mo11 }
  have T12 : ExB K mg "LimitExceeded" C12 g12 := { g := PySem.W.mg_of X G a12, cls := ⟨_, _, _, _, _, _, _, _, _, _, _, _, _, _, _, _, _, _, _, x12, (rfl : PySem.W.excTail [.type "OverflowError", .type "ArithmeticError", .type "Exception", .type "BaseException", .type "object"] _ = true), PySem.F.excBase_OverflowError, fun self => PySem.F.store_OverflowError.passes self, by decide⟩, sa := sa12, ex := ex12, kC := kc12, ga := ga12, gg := gg12, hd := hd12, i := ii12, t := ti12, cl := cl12, mo := mo12 }
  have T13 : ExB K mg "NothingToUndo" C13 g13 := { g := PySem.W.mg_of X G a13, cls := ⟨_, _, _, _, _, _, _, _, _, _, _, _, _, _, _, _, _, _, _, x13, (rfl : PySem.W.excTail [.type "RuntimeError", .type "Exception", .type "BaseException", .type "object"] _ = true), PySem.F.excBase_RuntimeError, fun self => PySem.F.store_RuntimeError.passes self, by decide⟩, sa := sa13, ex := ex13, kC := kc13, ga := ga13, gg := gg13, hd := hd13, i := ii13, t := ti13, cl := cl13, mo := mo13 }
  have T : Er K mg c fi pe := { T0 := T0, n0_0 := no0_0, T1 := T1, n1_0 := no1_0, T2 := T2, n2_0 := no2_0, n2_1 := no2_1, T3 := T3, n3_0 := no3_0, T4 := T4, n4_0 := no4_0, T5 := T5, n5_0 := no5_0, T6 := T6, n6_0 := no6_0, T7 := T7, n7_0 := no7_0, T8 := T8, n8_0 := no8_0, n8_1 := no8_1, T9 := T9, n9_0 := no9_0, n9_1 := no9_1, T10 := T10, n10_0 := no10_0, T11 := T11, n11_0 := no11_0, T12 := T12, n12_0 := no12_0, T13 := T13, n13_0 := no13_0, o2 := ⟨⟨_, _, _, _, _, _, _, _, _, _, _, _, _, _, _, x2, rfl⟩, sa2, ex2, ty2, kc2⟩, o8 := ⟨⟨_, _, _, _, _, _, _, _, _, _, _, _, _, _, _, x8, rfl⟩, sa8, ex8, ty8, kc8⟩, o9 := ⟨⟨_, _, _, _, _, _, _, _, _, _, _, _, _, _, _, x9, rfl⟩, sa9, ex9, ty9, kc9⟩, any := fun i hi => match i, hi with | 0, _ => ⟨_, T0⟩ | 1, _ => ⟨_, T1⟩ | 2, _ => ⟨_, T2⟩ | 3, _ => ⟨_, T3⟩ | 4, _ => ⟨_, T4⟩ | 5, _ => ⟨_, T5⟩ | 6, _ => ⟨_, T6⟩ | 7, _ => ⟨_, T7⟩ | 8, _ => ⟨_, T8⟩ | 9, _ => ⟨_, T9⟩ | 10, _ => ⟨_, T10⟩ | 11, _ => ⟨_, T11⟩ | 12, _ => ⟨_, T12⟩ | 13, _ => ⟨_, T13⟩ | n + 14, h => absurd h (by omega), D := ⟨dhn, dtk⟩, gpe := PySem.W.mg_of X G ape, own := fun i j hi hj => match i, hi with | 0, _ => (match j, hj with | 0, _ => m0_0 | 1, _ => m0_1 | 2, _ => m0_2 | 3, _ => m0_3 | 4, _ => m0_4 | 5, _ => m0_5 | 6, _ => m0_6 | 7, _ => m0_7 | 8, _ => m0_8 | 9, _ => m0_9 | 10, _ => m0_10 | 11, _ => m0_11 | 12, _ => m0_12 | 13, _ => m0_13 | n + 14, h => absurd h (by omega)) | 1, _ => (match j, hj with | 0, _ => m1_0 | 1, _ => m1_1 | 2, _ => m1_2 | 3, _ => m1_3 | 4, _ => m1_4 | 5, _ => m1_5 | 6, _ => m1_6 | 7, _ => m1_7 | 8, _ => m1_8 | 9, _ => m1_9 | 10, _ => m1_10 | 11, _ => m1_11 | 12, _ => m1_12 | 13, _ => m1_13 | n + 14, h => absurd h (by omega)) | 2, _ => (match j, hj with | 0, _ => m2_0 | 1, _ => m2_1 | 2, _ => m2_2 | 3, _ => m2_3 | 4, _ => m2_4 | 5, _ => m2_5 | 6, _ => m2_6 | 7, _ => m2_7 | 8, _ => m2_8 | 9, _ => m2_9 | 10, _ => m2_10 | 11, _ => m2_11 | 12, _ => m2_12 | 13, _ => m2_13 | n + 14, h => absurd h (by omega)) | 3, _ => (match j, hj with | 0, _ => m3_0 | 1, _ => m3_1 | 2, _ => m3_2 | 3, _ => m3_3 | 4, _ => m3_4 | 5, _ => m3_5 | 6, _ => m3_6 | 7, _ => m3_7 | 8, _ => m3_8 | 9, _ => m3_9 | 10, _ => m3_10 | 11, _ => m3_11 | 12, _ => m3_12 | 13, _ => m3_13 | n + 14, h => absurd h (by omega)) | 4, _ => (match j, hj with | 0, _ => m4_0 | 1, _ => m4_1 | 2, _ => m4_2 | 3, _ => m4_3 | 4, _ => m4_4 | 5, _ => m4_5 | 6, _ => m4_6 | 7, _ => m4_7 | 8, _ => m4_8 | 9, _ => m4_9 | 10, _ => m4_10 | 11, _ => m4_11 | 12, _ => m4_12 | 13, _ => m4_13 | n + 14, h => absurd h (by omega)) | 5, _ => (match j, hj with | 0, _ => m5_0 | 1, _ => m5_1 | 2, _ => m5_2 | 3, _ => m5_3 | 4, _ => m5_4 | 5, _ => m5_5 | 6, _ => m5_6 | 7, _ => m5_7 | 8, _ => m5_8 | 9, _ => m5_9 | 10, _ => m5_10 | 11, _ => m5_11 | 12, _ => m5_12 | 13, _ => m5_13 | n + 14, h => absurd h (by omega)) | 6, _ => (match j, hj with | 0, _ => m6_0 | 1, _ => m6_1 | 2, _ => m6_2 | 3, _ => m6_3 | 4, _ => m6_4 | 5, _ => m6_5 | 6, _ => m6_6 | 7, _ => m6_7 | 8, _ => m6_8 | 9, _ => m6_9 | 10, _ => m6_10 | 11, _ => m6_11 | 12, _ => m6_12 | 13, _ => m6_13 | n + 14, h => absurd h (by omega)) | 7, _ => (match j, hj with | 0, _ => m7_0 | 1, _ => m7_1 | 2, _ => m7_2 | 3, _ => m7_3 | 4, _ => m7_4 | 5, _ => m7_5 | 6, _ => m7_6 | 7, _ => m7_7 | 8, _ => m7_8 | 9, _ => m7_9 | 10, _ => m7_10 | 11, _ => m7_11 | 12, _ => m7_12 | 13, _ => m7_13 | n + 14, h => absurd h (by omega)) | 8, _ => (match j, hj with | 0, _ => m8_0 | 1, _ => m8_1 | 2, _ => m8_2 | 3, _ => m8_3 | 4, _ => m8_4 | 5, _ => m8_5 | 6, _ => m8_6 | 7, _ => m8_7 | 8, _ => m8_8 | 9, _ => m8_9 | 10, _ => m8_10 | 11, _ => m8_11 | 12, _ => m8_12 | 13, _ => m8_13 | n + 14, h => absurd h (by omega)) | 9, _ => (match j, hj with | 0, _ => m9_0 | 1, _ => m9_1 | 2, _ => m9_2 | 3, _ => m9_3 | 4, _ => m9_4 | 5, _ => m9_5 | 6, _ => m9_6 | 7, _ => m9_7 | 8, _ => m9_8 | 9, _ => m9_9 | 10, _ => m9_10 | 11, _ => m9_11 | 12, _ => m9_12 | 13, _ => m9_13 | n + 14, h => absurd h (by omega)) | 10, _ => (match j, hj with | 0, _ => m10_0 | 1, _ => m10_1 | 2, _ => m10_2 | 3, _ => m10_3 | 4, _ => m10_4 | 5, _ => m10_5 | 6, _ => m10_6 | 7, _ => m10_7 | 8, _ => m10_8 | 9, _ => m10_9 | 10, _ => m10_10 | 11, _ => m10_11 | 12, _ => m10_12 | 13, _ => m10_13 | n + 14, h => absurd h (by omega)) | 11, _ => (match j, hj with | 0, _ => m11_0 | 1, _ => m11_1 | 2, _ => m11_2 | 3, _ => m11_3 | 4, _ => m11_4 | 5, _ => m11_5 | 6, _ => m11_6 | 7, _ => m11_7 | 8, _ => m11_8 | 9, _ => m11_9 | 10, _ => m11_10 | 11, _ => m11_11 | 12, _ => m11_12 | 13, _ => m11_13 | n + 14, h => absurd h (by omega)) | 12, _ => (match j, hj with | 0, _ => m12_0 | 1, _ => m12_1 | 2, _ => m12_2 | 3, _ => m12_3 | 4, _ => m12_4 | 5, _ => m12_5 | 6, _ => m12_6 | 7, _ => m12_7 | 8, _ => m12_8 | 9, _ => m12_9 | 10, _ => m12_10 | 11, _ => m12_11 | 12, _ => m12_12 | 13, _ => m12_13 | n + 14, h => absurd h (by omega)) | 13, _ => (match j, hj with | 0, _ => m13_0 | 1, _ => m13_1 | 2, _ => m13_2 | 3, _ => m13_3 | 4, _ => m13_4 | 5, _ => m13_5 | 6, _ => m13_6 | 7, _ => m13_7 | 8, _ => m13_8 | 9, _ => m13_9 | 10, _ => m13_10 | 11, _ => m13_11 | 12, _ => m13_12 | 13, _ => m13_13 | n + 14, h => absurd h (by omega)) | n + 14, h => absurd h (by omega), pul := fun i hi => match i, hi with | 0, _ => mp0 | 1, _ => mp1 | 2, _ => mp2 | 3, _ => mp3 | 4, _ => mp4 | 5, _ => mp5 | 6, _ => mp6 | 7, _ => mp7 | 8, _ => mp8 | 9, _ => mp9 | 10, _ => mp10 | 11, _ => mp11 | 12, _ => mp12 | 13, _ => mp13 | n + 14, h => absurd h (by omega), val := fun i hi => match i, hi with | 0, _ => mV0 | 1, _ => mV1 | 2, _ => mV2 | 3, _ => mV3 | 4, _ => mV4 | 5, _ => mV5 | 6, _ => mV6 | 7, _ => mV7 | 8, _ => mV8 | 9, _ => mV9 | 10, _ => mV10 | 11, _ => mV11 | 12, _ => mV12 | 13, _ => mV13 | n + 14, h => absurd h (by omega), lok := fun i hi => match i, hi with | 0, _ => mL0 | 1, _ => mL1 | 2, _ => mL2 | 3, _ => mL3 | 4, _ => mL4 | 5, _ => mL5 | 6, _ => mL6 | 7, _ => mL7 | 8, _ => mL8 | 9, _ => mL9 | 10, _ => mL10 | 11, _ => mL11 | 12, _ => mL12 | 13, _ => mL13 | n + 14, h => absurd h (by omega), ovf := fun i hi => match i, hi with | 0, _ => mO0 | 1, _ => mO1 | 2, _ => mO2 | 3, _ => mO3 | 4, _ => mO4 | 5, _ => mO5 | 6, _ => mO6 | 7, _ => mO7 | 8, _ => mO8 | 9, _ => mO9 | 10, _ => mO10 | 11, _ => mO11 | 12, _ => mO12 | 13, _ => mO13 | n + 14, h => absurd h (by omega), run := fun i hi => match i, hi with | 0, _ => mR0 | 1, _ => mR1 | 2, _ => mR2 | 3, _ => mR3 | 4, _ => mR4 | 5, _ => mR5 | 6, _ => mR6 | 7, _ => mR7 | 8, _ => mR8 | 9, _ => mR9 | 10, _ => mR10 | 11, _ => mR11 | 12, _ => mR12 | 13, _ => mR13 | n + 14, h => absurd h (by omega) }
  have F_l_numbers := fun_mk (st := s_l_numbers) l_f0 c_f0 k_f0
  have b_l_numbers := F_l_numbers.binds (ps := ["_law_cell", "_law_salt", "_law_sizes"]) fun _ _ _ _ _ _ us hl => match us, hl with | [_, _, _], _ => rfl
  have g_l_numbers := PySem.W.mg_of X G n_f0
  have F_l_made := fun_mk (st := s_l_made) l_f1 c_f1 k_f1
  have b_l_made := F_l_made.binds (ps := ["_law_thing", "_law_other"]) fun _ _ _ _ _ _ us hl => match us, hl with | [_, _], _ => rfl
  have g_l_made := PySem.W.mg_of X G n_f1
  have F_l_held := fun_mk (st := s_l_held) l_f2 c_f2 k_f2
  have b_l_held := F_l_held.binds (ps := ["_law_made_here", "_law_thing", "_law_other"]) fun _ _ _ _ _ _ us hl => match us, hl with | [_, _, _], _ => rfl
  have g_l_held := PySem.W.mg_of X G n_f2
  have F_l_marks := fun_mk (st := s_l_marks) l_f3 c_f3 k_f3
  have b_l_marks := F_l_marks.binds (ps := ["_law_e"]) fun _ _ _ _ _ _ us hl => match us, hl with | [_], _ => rfl
  have g_l_marks := PySem.W.mg_of X G n_f3
  have F_l_kinds_right := fun_mk (st := s_l_kinds_right) l_f4 c_f4 k_f4
  have b_l_kinds_right := F_l_kinds_right.binds (ps := ["_law_made_here"]) fun _ _ _ _ _ _ us hl => match us, hl with | [_], _ => rfl
  have g_l_kinds_right := PySem.W.mg_of X G n_f4
  have F_law := fun_mk (st := s_law) l_f5 c_f5 k_f5
  have F0 := fun_mk (st := si_InvalidItem) l_0 c_0 k_0
  have F1 := fun_mk (st := si_InvalidStep) l_1 c_1 k_1
  have F2 := fun_mk (st := si_InvalidBook) l_2 c_2 k_2
  have F3 := fun_mk (st := si_InvalidState) l_3 c_3 k_3
  have F4 := fun_mk (st := si_InvalidMove) l_4 c_4 k_4
  have F5 := fun_mk (st := si_InvalidText) l_5 c_5 k_5
  have F6 := fun_mk (st := si_InvalidOption) l_6 c_6 k_6
  have F7 := fun_mk (st := si_InvalidCommand) l_7 c_7 k_7
  have F8 := fun_mk (st := si_NotRight) l_8 c_8 k_8
  have F9 := fun_mk (st := si_Faulty) l_9 c_9 k_9
  have F10 := fun_mk (st := si_InvalidNumber) l_10 c_10 k_10
  have F11 := fun_mk (st := si_UnknownName) l_11 c_11 k_11
  have F12 := fun_mk (st := si_LimitExceeded) l_12 c_12 k_12
  have F13 := fun_mk (st := si_NothingToUndo) l_13 c_13 k_13
  refine ⟨PySem.W.fnOf "law" "law" (defArgs s_law) (defBody s_law) (defScope s_law) .none kVf5 dcf5 pmf5 anf5 cdf5 ctf5, fun s v => .of_eq rfl, fun base _ _ => ?_⟩
  have J : Ini l.prog w K mg base c fi fd := { G0 := ok_i0 F0 T, b0 := F0.binds (ps := ["self", "number"]) fun _ _ _ _ _ _ us hl => match us, hl with | [_, _], _ => rfl, k0 := fun s self ws _ hl => match ws, hl with | [_], _ => .of_eq rfl, G1 := ok_i1 F1 T, b1 := F1.binds (ps := ["self", "index"]) fun _ _ _ _ _ _ us hl => match us, hl with | [_, _], _ => rfl, k1 := fun s self ws _ hl => match ws, hl with | [_], _ => .of_eq rfl, G2 := ok_i2 F2 T, b2 := F2.binds (ps := ["self", "part", "name"]) fun _ _ _ _ _ _ us hl => match us, hl with | [_, _, _], _ => rfl, k2 := fun s self ws _ hl => match ws, hl with | [_, _], _ => .of_eq rfl, G3 := ok_i3 F3 T, b3 := F3.binds (ps := ["self", "value"]) fun _ _ _ _ _ _ us hl => match us, hl with | [_, _], _ => rfl, k3 := fun s self ws _ hl => match ws, hl with | [_], _ => .of_eq rfl, G4 := ok_i4 F4 T, b4 := F4.binds (ps := ["self", "move"]) fun _ _ _ _ _ _ us hl => match us, hl with | [_, _], _ => rfl, k4 := fun s self ws _ hl => match ws, hl with | [_], _ => .of_eq rfl, G5 := ok_i5 F5 T, b5 := F5.binds (ps := ["self", "line"]) fun _ _ _ _ _ _ us hl => match us, hl with | [_, _], _ => rfl, k5 := fun s self ws _ hl => match ws, hl with | [_], _ => .of_eq rfl, G6 := ok_i6 F6 T, b6 := F6.binds (ps := ["self", "value"]) fun _ _ _ _ _ _ us hl => match us, hl with | [_, _], _ => rfl, k6 := fun s self ws _ hl => match ws, hl with | [_], _ => .of_eq rfl, G7 := ok_i7 F7 T, b7 := F7.binds (ps := ["self", "word"]) fun _ _ _ _ _ _ us hl => match us, hl with | [_, _], _ => rfl, k7 := fun s self ws _ hl => match ws, hl with | [_], _ => .of_eq rfl, G8 := ok_i8 F8 T, b8 := F8.binds (ps := ["self", "word", "run"]) fun _ _ _ _ _ _ us hl => match us, hl with | [_, _, _], _ => rfl, k8 := fun s self ws _ hl => match ws, hl with | [_, _], _ => .of_eq rfl, G9 := ok_i9 F9 T, b9 := F9.binds (ps := ["self", "word", "move"]) fun _ _ _ _ _ _ us hl => match us, hl with | [_, _, _], _ => rfl, k9 := fun s self ws _ hl => match ws, hl with | [_, _], _ => .of_eq rfl, G10 := ok_i10 F10 T, b10 := F10.binds (ps := ["self", "value"]) fun _ _ _ _ _ _ us hl => match us, hl with | [_, _], _ => rfl, k10 := fun s self ws _ hl => match ws, hl with | [_], _ => .of_eq rfl, G11 := ok_i11 F11 T, b11 := F11.binds (ps := ["self", "name"]) fun _ _ _ _ _ _ us hl => match us, hl with | [_, _], _ => rfl, k11 := fun s self ws _ hl => match ws, hl with | [_], _ => .of_eq rfl, G12 := ok_i12 F12 T, b12 := F12.binds (ps := ["self", "limit"]) fun _ _ _ _ _ _ us hl => match us, hl with | [_, _], _ => rfl, k12 := fun s self ws _ hl => match ws, hl with | [_], _ => .of_eq rfl, G13 := ok_i13 F13 T, b13 := F13.binds (ps := ["self", "name"]) fun _ _ _ _ _ _ us hl => match us, hl with | [_, _], _ => rfl, k13 := fun s self ws _ hl => match ws, hl with | [_], _ => .of_eq rfl }
  have G_l_numbers : FnOk l.prog w K mg base CX0 1 f0 _ ["_law_cell", "_law_salt", "_law_sizes"] (spNum K) := ok_num F_l_numbers Bt.m_max Bt.m_range Bt.m_len
  have G_l_made : FnOk l.prog w K mg base CX0 3 f1 _ ["_law_thing", "_law_other"] (spMade K c) := ok_l_made F_l_made T J
  have G_l_held : FnG l.prog w K mg base CX0 1 f2 _ ["_law_made_here", "_law_thing", "_law_other"] (spHeld K c) := ok_l_held F_l_held Bt T
  have G_l_marks : FnOk l.prog w K mg base CX0 1 f3 _ ["_law_e"] (spMarks K c) := ok_l_marks F_l_marks Bt T
  have G_l_kinds_right : FnOk l.prog w K mg base CX0 2 f4 _ ["_law_made_here"] (spKinds K c) := ok_l_kinds_right F_l_kinds_right Bt T F_l_marks b_l_marks g_l_marks G_l_marks
  exact ok_l_law (c := c) F_law Bt F_l_numbers b_l_numbers g_l_numbers G_l_numbers F_l_made b_l_made g_l_made G_l_made F_l_held b_l_held g_l_held G_l_held F_l_kinds_right b_l_kinds_right g_l_kinds_right G_l_kinds_right
theorem walk {l : PySem.W.OpenLaw} {q : Program} {loose : List Str} {XP : (Str → Option Value) → Heap → Prop} {YP : World → Heap → Prop} {d : DefRec} {K : Params → PySem.W.Frag} (hn : l.most = some 63) (hdf : d.params.defaults = [])
    (hY : ∀ (w : World) (h : Heap), YP w h → (K w.params).In h)
    (F : ∀ (w : World) (mg : Str → Option Value) (fa : Addr) (h : Heap), (K w.params).In h → h.Ns mainGlobals mg → mg d.name = some (.ref fa) →
      ∃ fd : FuncData, (∀ (s : Shared) (u : Value), BindsTo s fd ⟨[u], []⟩ [("_law_script", u)]) ∧ ∀ base : Heap, (K w.params).In base → base.Ns mainGlobals mg → FnG l.prog w (K w.params) mg base CX0 4 fa fd ["_law_script"] (spLaw (K w.params))) :
    PySem.W.WalkO q loose XP YP l.row.toRowW d [] (fun f vs => PySem.call f vs) :=
  walk_G (n := 63) (k := 4) (x := "_law_script") (sp := fun w => spLaw (K w.params)) hn (by decide) hdf ⟨rfl, by decide, by decide⟩ hY F fun _ _ a ns hl _ hE => ⟨a, ns, rfl, hE, hl, fun _ => rfl⟩
end K01

open PySem PySem.W PyProof.Rows in
set_option maxRecDepth 100000 in
set_option maxHeartbeats 0 in
theorem PySem.Challenge.cw_pulledout_k01_error_classes_holds : PySem.Challenge.rw_pulledout_k01_error_classes.Holds := by
  w_on; o_law; k_head; (case hw => w_witness2)
  k_fill
  refine K01.walk (l := PySem.Challenge.rw_pulledout_k01_error_classes) rfl rfl (fun w h Y => PySem.W.kIn_of Y) ?F
  case F =>
    intro w mg fa h KX G hmg
    refine' K01.all_mk KX G hmg ?ape ?a0 ?x0 ?sa0 ?ex0 ?kc0 ?ga0 ?gg0 ?hd0 ?ii0 ?ti0 ?cl0 ?mo0 ?no0_0 ?a1 ?x1 ?sa1 ?ex1 ?kc1 ?ga1 ?gg1 ?hd1 ?ii1 ?ti1 ?cl1 ?mo1 ?no1_0 ?a2 ?x2 ?sa2 ?ex2 ?kc2 ?ga2 ?gg2 ?hd2 ?ii2 ?ti2 ?cl2 ?mo2 ?no2_0 ?no2_1 ?ty2 ?a3 ?x3 ?sa3 ?ex3 ?kc3 ?ga3 ?gg3 ?hd3 ?ii3 ?ti3 ?cl3 ?mo3 ?no3_0 ?a4 ?x4 ?sa4 ?ex4 ?kc4 ?ga4 ?gg4 ?hd4 ?ii4 ?ti4 ?cl4 ?mo4 ?no4_0 ?a5 ?x5 ?sa5 ?ex5 ?kc5 ?ga5 ?gg5 ?hd5 ?ii5 ?ti5 ?cl5 ?mo5 ?no5_0 ?a6 ?x6 ?sa6 ?ex6 ?kc6 ?ga6 ?gg6 ?hd6 ?ii6 ?ti6 ?cl6 ?mo6 ?no6_0 ?a7 ?x7 ?sa7 ?ex7 ?kc7 ?ga7 ?gg7 ?hd7 ?ii7 ?ti7 ?cl7 ?mo7 ?no7_0 ?a8 ?x8 ?sa8 ?ex8 ?kc8 ?ga8 ?gg8 ?hd8 ?ii8 ?ti8 ?cl8 ?mo8 ?no8_0 ?no8_1 ?ty8 ?a9 ?x9 ?sa9 ?ex9 ?kc9 ?ga9 ?gg9 ?hd9 ?ii9 ?ti9 ?cl9 ?mo9 ?no9_0 ?no9_1 ?ty9 ?a10 ?x10 ?sa10 ?ex10 ?kc10 ?ga10 ?gg10 ?hd10 ?ii10 ?ti10 ?cl10 ?mo10 ?no10_0 ?a11 ?x11 ?sa11 ?ex11 ?kc11 ?ga11 ?gg11 ?hd11 ?ii11 ?ti11 ?cl11 ?mo11 ?no11_0 ?a12 ?x12 ?sa12 ?ex12 ?kc12 ?ga12 ?gg12 ?hd12 ?ii12 ?ti12 ?cl12 ?mo12 ?no12_0 ?a13 ?x13 ?sa13 ?ex13 ?kc13 ?ga13 ?gg13 ?hd13 ?ii13 ?ti13 ?cl13 ?mo13 ?no13_0 ?m0_0 ?m0_1 ?m0_2 ?m0_3 ?m0_4 ?m0_5 ?m0_6 ?m0_7 ?m0_8 ?m0_9 ?m0_10 ?m0_11 ?m0_12 ?m0_13 ?mp0 ?mV0 ?mL0 ?mO0 ?mR0 ?m1_0 ?m1_1 ?m1_2 ?m1_3 ?m1_4 ?m1_5 ?m1_6 ?m1_7 ?m1_8 ?m1_9 ?m1_10 ?m1_11 ?m1_12 ?m1_13 ?mp1 ?mV1 ?mL1 ?mO1 ?mR1 ?m2_0 ?m2_1 ?m2_2 ?m2_3 ?m2_4 ?m2_5 ?m2_6 ?m2_7 ?m2_8 ?m2_9 ?m2_10 ?m2_11 ?m2_12 ?m2_13 ?mp2 ?mV2 ?mL2 ?mO2 ?mR2 ?m3_0 ?m3_1 ?m3_2 ?m3_3 ?m3_4 ?m3_5 ?m3_6 ?m3_7 ?m3_8 ?m3_9 ?m3_10 ?m3_11 ?m3_12 ?m3_13 ?mp3 ?mV3 ?mL3 ?mO3 ?mR3 ?m4_0 ?m4_1 ?m4_2 ?m4_3 ?m4_4 ?m4_5 ?m4_6 ?m4_7 ?m4_8 ?m4_9 ?m4_10 ?m4_11 ?m4_12 ?m4_13 ?mp4 ?mV4 ?mL4 ?mO4 ?mR4 ?m5_0 ?m5_1 ?m5_2 ?m5_3 ?m5_4 ?m5_5 ?m5_6 ?m5_7 ?m5_8 ?m5_9 ?m5_10 ?m5_11 ?m5_12 ?m5_13 ?mp5 ?mV5 ?mL5 ?mO5 ?mR5 ?m6_0 ?m6_1 ?m6_2 ?m6_3 ?m6_4 ?m6_5 ?m6_6 ?m6_7 ?m6_8 ?m6_9 ?m6_10 ?m6_11 ?m6_12 ?m6_13 ?mp6 ?mV6 ?mL6 ?mO6 ?mR6 ?m7_0 ?m7_1 ?m7_2 ?m7_3 ?m7_4 ?m7_5 ?m7_6 ?m7_7 ?m7_8 ?m7_9 ?m7_10 ?m7_11 ?m7_12 ?m7_13 ?mp7 ?mV7 ?mL7 ?mO7 ?mR7 ?m8_0 ?m8_1 ?m8_2 ?m8_3 ?m8_4 ?m8_5 ?m8_6 ?m8_7 ?m8_8 ?m8_9 ?m8_10 ?m8_11 ?m8_12 ?m8_13 ?mp8 ?mV8 ?mL8 ?mO8 ?mR8 ?m9_0 ?m9_1 ?m9_2 ?m9_3 ?m9_4 ?m9_5 ?m9_6 ?m9_7 ?m9_8 ?m9_9 ?m9_10 ?m9_11 ?m9_12 ?m9_13 ?mp9 ?mV9 ?mL9 ?mO9 ?mR9 ?m10_0 ?m10_1 ?m10_2 ?m10_3 ?m10_4 ?m10_5 ?m10_6 ?m10_7 ?m10_8 ?m10_9 ?m10_10 ?m10_11 ?m10_12 ?m10_13 ?mp10 ?mV10 ?mL10 ?mO10 ?mR10 ?m11_0 ?m11_1 ?m11_2 ?m11_3 ?m11_4 ?m11_5 ?m11_6 ?m11_7 ?m11_8 ?m11_9 ?m11_10 ?m11_11 ?m11_12 ?m11_13 ?mp11 ?mV11 ?mL11 ?mO11 ?mR11 ?m12_0 ?m12_1 ?m12_2 ?m12_3 ?m12_4 ?m12_5 ?m12_6 ?m12_7 ?m12_8 ?m12_9 ?m12_10 ?m12_11 ?m12_12 ?m12_13 ?mp12 ?mV12 ?mL12 ?mO12 ?mR12 ?m13_0 ?m13_1 ?m13_2 ?m13_3 ?m13_4 ?m13_5 ?m13_6 ?m13_7 ?m13_8 ?m13_9 ?m13_10 ?m13_11 ?m13_12 ?m13_13 ?mp13 ?mV13 ?mL13 ?mO13 ?mR13 ?dhn ?dtk ?l_0 ?c_0 ?k_0 ?l_1 ?c_1 ?k_1 ?l_2 ?c_2 ?k_2 ?l_3 ?c_3 ?k_3 ?l_4 ?c_4 ?k_4 ?l_5 ?c_5 ?k_5 ?l_6 ?c_6 ?k_6 ?l_7 ?c_7 ?k_7 ?l_8 ?c_8 ?k_8 ?l_9 ?c_9 ?k_9 ?l_10 ?c_10 ?k_10 ?l_11 ?c_11 ?k_11 ?l_12 ?c_12 ?k_12 ?l_13 ?c_13 ?k_13 ?n_f0 ?l_f0 ?c_f0 ?k_f0 ?n_f1 ?l_f1 ?c_f1 ?k_f1 ?n_f2 ?l_f2 ?c_f2 ?k_f2 ?n_f3 ?l_f3 ?c_f3 ?k_f3 ?n_f4 ?l_f4 ?c_f4 ?k_f4 ?n_f5 ?l_f5 ?c_f5 ?k_f5 ?z_max ?z_range ?z_len ?z_isinstance ?z_repr ?z_enumerate ?z_ValueError ?z_LookupError ?z_OverflowError ?z_RuntimeError
    (case ape => k_is)
    (case a0 => k_is)
    (case x0 => k_is)
    (case sa0 => k_is)
    (case ex0 => k_is)
    (case kc0 => k_is)
    (case ga0 => k_is)
    (case gg0 => k_is)
    (case hd0 => k_is)
    (case ii0 => k_is)
    (case ti0 => k_is)
    (case cl0 => k_is)
    (case mo0 => k_is)
    (case no0_0 => k_is)
    (case a1 => k_is)
    (case x1 => k_is)
    (case sa1 => k_is)
    (case ex1 => k_is)
    (case kc1 => k_is)
    (case ga1 => k_is)
    (case gg1 => k_is)
    (case hd1 => k_is)
    (case ii1 => k_is)
    (case ti1 => k_is)
    (case cl1 => k_is)
    (case mo1 => k_is)
    (case no1_0 => k_is)
    (case a2 => k_is)
    (case x2 => k_is)
    (case sa2 => k_is)
    (case ex2 => k_is)
    (case kc2 => k_is)
    (case ga2 => k_is)
    (case gg2 => k_is)
    (case hd2 => k_is)
    (case ii2 => k_is)
    (case ti2 => k_is)
    (case cl2 => k_is)
    (case mo2 => k_is)
    (case no2_0 => k_is)
    (case no2_1 => k_is)
    (case ty2 => k_is)
    (case a3 => k_is)
    (case x3 => k_is)
    (case sa3 => k_is)
    (case ex3 => k_is)
    (case kc3 => k_is)
    (case ga3 => k_is)
    (case gg3 => k_is)
    (case hd3 => k_is)
    (case ii3 => k_is)
    (case ti3 => k_is)
    (case cl3 => k_is)
    (case mo3 => k_is)
    (case no3_0 => k_is)
    (case a4 => k_is)
    (case x4 => k_is)
    (case sa4 => k_is)
    (case ex4 => k_is)
    (case kc4 => k_is)
    (case ga4 => k_is)
    (case gg4 => k_is)
    (case hd4 => k_is)
    (case ii4 => k_is)
    (case ti4 => k_is)
    (case cl4 => k_is)
    (case mo4 => k_is)
    (case no4_0 => k_is)
    (case a5 => k_is)
    (case x5 => k_is)
    (case sa5 => k_is)
    (case ex5 => k_is)
    (case kc5 => k_is)
    (case ga5 => k_is)
    (case gg5 => k_is)
    (case hd5 => k_is)
    (case ii5 => k_is)
    (case ti5 => k_is)
    (case cl5 => k_is)
    (case mo5 => k_is)
    (case no5_0 => k_is)
    (case a6 => k_is)
    (case x6 => k_is)
    (case sa6 => k_is)
    (case ex6 => k_is)
    (case kc6 => k_is)
    (case ga6 => k_is)
    (case gg6 => k_is)
    (case hd6 => k_is)
    (case ii6 => k_is)
    (case ti6 => k_is)
    (case cl6 => k_is)
    (case mo6 => k_is)
    (case no6_0 => k_is)
    (case a7 => k_is)
    (case x7 => k_is)
    (case sa7 => k_is)
    (case ex7 => k_is)
    (case kc7 => k_is)
    (case ga7 => k_is)
    (case gg7 => k_is)
    (case hd7 => k_is)
    (case ii7 => k_is)
    (case ti7 => k_is)
    (case cl7 => k_is)
    (case mo7 => k_is)
    (case no7_0 => k_is)
    (case a8 => k_is)
    (case x8 => k_is)
    (case sa8 => k_is)
    (case ex8 => k_is)
    (case kc8 => k_is)
    (case ga8 => k_is)
    (case gg8 => k_is)
    (case hd8 => k_is)
    (case ii8 => k_is)
    (case ti8 => k_is)
    (case cl8 => k_is)
    (case mo8 => k_is)
    (case no8_0 => k_is)
    (case no8_1 => k_is)
    (case ty8 => k_is)
    (case a9 => k_is)
    (case x9 => k_is)
    (case sa9 => k_is)
    (case ex9 => k_is)
    (case kc9 => k_is)
    (case ga9 => k_is)
    (case gg9 => k_is)
    (case hd9 => k_is)
    (case ii9 => k_is)
    (case ti9 => k_is)
    (case cl9 => k_is)
    (case mo9 => k_is)
    (case no9_0 => k_is)
    (case no9_1 => k_is)
    (case ty9 => k_is)
    (case a10 => k_is)
    (case x10 => k_is)
    (case sa10 => k_is)
    (case ex10 => k_is)
    (case kc10 => k_is)
    (case ga10 => k_is)
    (case gg10 => k_is)
    (case hd10 => k_is)
    (case ii10 => k_is)
    (case ti10 => k_is)
    (case cl10 => k_is)
    (case mo10 => k_is)
    (case no10_0 => k_is)
    (case a11 => k_is)
    (case x11 => k_is)
    (case sa11 => k_is)
    (case ex11 => k_is)
    (case kc11 => k_is)
    (case ga11 => k_is)
    (case gg11 => k_is)
    (case hd11 => k_is)
    (case ii11 => k_is)
    (case ti11 => k_is)
    (case cl11 => k_is)
    (case mo11 => k_is)
    (case no11_0 => k_is)
    (case a12 => k_is)
    (case x12 => k_is)
    (case sa12 => k_is)
    (case ex12 => k_is)
    (case kc12 => k_is)
    (case ga12 => k_is)
    (case gg12 => k_is)
    (case hd12 => k_is)
    (case ii12 => k_is)
    (case ti12 => k_is)
    (case cl12 => k_is)
    (case mo12 => k_is)
    (case no12_0 => k_is)
    (case a13 => k_is)
    (case x13 => k_is)
    (case sa13 => k_is)
    (case ex13 => k_is)
    (case kc13 => k_is)
    (case ga13 => k_is)
    (case gg13 => k_is)
    (case hd13 => k_is)
    (case ii13 => k_is)
    (case ti13 => k_is)
    (case cl13 => k_is)
    (case mo13 => k_is)
    (case no13_0 => k_is)
    (case m0_0 => first | rfl | k_is)
    (case m0_1 => first | rfl | k_is)
    (case m0_2 => first | rfl | k_is)
    (case m0_3 => first | rfl | k_is)
    (case m0_4 => first | rfl | k_is)
    (case m0_5 => first | rfl | k_is)
    (case m0_6 => first | rfl | k_is)
    (case m0_7 => first | rfl | k_is)
    (case m0_8 => first | rfl | k_is)
    (case m0_9 => first | rfl | k_is)
    (case m0_10 => first | rfl | k_is)
    (case m0_11 => first | rfl | k_is)
    (case m0_12 => first | rfl | k_is)
    (case m0_13 => first | rfl | k_is)
    (case mp0 => first | rfl | k_is)
    (case mV0 => first | rfl | k_is)
    (case mL0 => first | rfl | k_is)
    (case mO0 => first | rfl | k_is)
    (case mR0 => first | rfl | k_is)
    (case m1_0 => first | rfl | k_is)
    (case m1_1 => first | rfl | k_is)
    (case m1_2 => first | rfl | k_is)
    (case m1_3 => first | rfl | k_is)
    (case m1_4 => first | rfl | k_is)
    (case m1_5 => first | rfl | k_is)
    (case m1_6 => first | rfl | k_is)
    (case m1_7 => first | rfl | k_is)
    (case m1_8 => first | rfl | k_is)
    (case m1_9 => first | rfl | k_is)
    (case m1_10 => first | rfl | k_is)
    (case m1_11 => first | rfl | k_is)
    (case m1_12 => first | rfl | k_is)
    (case m1_13 => first | rfl | k_is)
    (case mp1 => first | rfl | k_is)
    (case mV1 => first | rfl | k_is)
    (case mL1 => first | rfl | k_is)
    (case mO1 => first | rfl | k_is)
    (case mR1 => first | rfl | k_is)
    (case m2_0 => first | rfl | k_is)
    (case m2_1 => first | rfl | k_is)
    (case m2_2 => first | rfl | k_is)
    (case m2_3 => first | rfl | k_is)
    (case m2_4 => first | rfl | k_is)
    (case m2_5 => first | rfl | k_is)
    (case m2_6 => first | rfl | k_is)
    (case m2_7 => first | rfl | k_is)
    (case m2_8 => first | rfl | k_is)
    (case m2_9 => first | rfl | k_is)
    (case m2_10 => first | rfl | k_is)
    (case m2_11 => first | rfl | k_is)
    (case m2_12 => first | rfl | k_is)
    (case m2_13 => first | rfl | k_is)
    (case mp2 => first | rfl | k_is)
    (case mV2 => first | rfl | k_is)
    (case mL2 => first | rfl | k_is)
    (case mO2 => first | rfl | k_is)
    (case mR2 => first | rfl | k_is)
    (case m3_0 => first | rfl | k_is)
    (case m3_1 => first | rfl | k_is)
    (case m3_2 => first | rfl | k_is)
    (case m3_3 => first | rfl | k_is)
    (case m3_4 => first | rfl | k_is)
    (case m3_5 => first | rfl | k_is)
    (case m3_6 => first | rfl | k_is)
    (case m3_7 => first | rfl | k_is)
    (case m3_8 => first | rfl | k_is)
    (case m3_9 => first | rfl | k_is)
    (case m3_10 => first | rfl | k_is)
    (case m3_11 => first | rfl | k_is)
    (case m3_12 => first | rfl | k_is)
    (case m3_13 => first | rfl | k_is)
    (case mp3 => first | rfl | k_is)
    (case mV3 => first | rfl | k_is)
    (case mL3 => first | rfl | k_is)
    (case mO3 => first | rfl | k_is)
    (case mR3 => first | rfl | k_is)
    (case m4_0 => first | rfl | k_is)
    (case m4_1 => first | rfl | k_is)
    (case m4_2 => first | rfl | k_is)
    (case m4_3 => first | rfl | k_is)
    (case m4_4 => first | rfl | k_is)
    (case m4_5 => first | rfl | k_is)
    (case m4_6 => first | rfl | k_is)
    (case m4_7 => first | rfl | k_is)
    (case m4_8 => first | rfl | k_is)
    (case m4_9 => first | rfl | k_is)
    (case m4_10 => first | rfl | k_is)
    (case m4_11 => first | rfl | k_is)
    (case m4_12 => first | rfl | k_is)
    (case m4_13 => first | rfl | k_is)
    (case mp4 => first | rfl | k_is)
    (case mV4 => first | rfl | k_is)
    (case mL4 => first | rfl | k_is)
    (case mO4 => first | rfl | k_is)
    (case mR4 => first | rfl | k_is)
    (case m5_0 => first | rfl | k_is)
    (case m5_1 => first | rfl | k_is)
    (case m5_2 => first | rfl | k_is)
    (case m5_3 => first | rfl | k_is)
    (case m5_4 => first | rfl | k_is)
    (case m5_5 => first | rfl | k_is)
    (case m5_6 => first | rfl | k_is)
    (case m5_7 => first | rfl | k_is)
    (case m5_8 => first | rfl | k_is)
    (case m5_9 => first | rfl | k_is)
    (case m5_10 => first | rfl | k_is)
    (case m5_11 => first | rfl | k_is)
    (case m5_12 => first | rfl | k_is)
    (case m5_13 => first | rfl | k_is)
    (case mp5 => first | rfl | k_is)
    (case mV5 => first | rfl | k_is)
    (case mL5 => first | rfl | k_is)
    (case mO5 => first | rfl | k_is)
    (case mR5 => first | rfl | k_is)
    (case m6_0 => first | rfl | k_is)
    (case m6_1 => first | rfl | k_is)
    (case m6_2 => first | rfl | k_is)
    (case m6_3 => first | rfl | k_is)
    (case m6_4 => first | rfl | k_is)
    (case m6_5 => first | rfl | k_is)
    (case m6_6 => first | rfl | k_is)
    (case m6_7 => first | rfl | k_is)
    (case m6_8 => first | rfl | k_is)
    (case m6_9 => first | rfl | k_is)
    (case m6_10 => first | rfl | k_is)
    (case m6_11 => first | rfl | k_is)
    (case m6_12 => first | rfl | k_is)
    (case m6_13 => first | rfl | k_is)
    (case mp6 => first | rfl | k_is)
    (case mV6 => first | rfl | k_is)
    (case mL6 => first | rfl | k_is)
    (case mO6 => first | rfl | k_is)
    (case mR6 => first | rfl | k_is)
    (case m7_0 => first | rfl | k_is)
    (case m7_1 => first | rfl | k_is)
    (case m7_2 => first | rfl | k_is)
    (case m7_3 => first | rfl | k_is)
    (case m7_4 => first | rfl | k_is)
    (case m7_5 => first | rfl | k_is)
    (case m7_6 => first | rfl | k_is)
    (case m7_7 => first | rfl | k_is)
    (case m7_8 => first | rfl | k_is)
    (case m7_9 => first | rfl | k_is)
    (case m7_10 => first | rfl | k_is)
    (case m7_11 => first | rfl | k_is)
    (case m7_12 => first | rfl | k_is)
    (case m7_13 => first | rfl | k_is)
    (case mp7 => first | rfl | k_is)
    (case mV7 => first | rfl | k_is)
    (case mL7 => first | rfl | k_is)
    (case mO7 => first | rfl | k_is)
    (case mR7 => first | rfl | k_is)
    (case m8_0 => first | rfl | k_is)
    (case m8_1 => first | rfl | k_is)
    (case m8_2 => first | rfl | k_is)
    (case m8_3 => first | rfl | k_is)
    (case m8_4 => first | rfl | k_is)
    (case m8_5 => first | rfl | k_is)
    (case m8_6 => first | rfl | k_is)
    (case m8_7 => first | rfl | k_is)
    (case m8_8 => first | rfl | k_is)
    (case m8_9 => first | rfl | k_is)
    (case m8_10 => first | rfl | k_is)
    (case m8_11 => first | rfl | k_is)
    (case m8_12 => first | rfl | k_is)
    (case m8_13 => first | rfl | k_is)
    (case mp8 => first | rfl | k_is)
    (case mV8 => first | rfl | k_is)
    (case mL8 => first | rfl | k_is)
    (case mO8 => first | rfl | k_is)
    (case mR8 => first | rfl | k_is)
    (case m9_0 => first | rfl | k_is)
    (case m9_1 => first | rfl | k_is)
    (case m9_2 => first | rfl | k_is)
    (case m9_3 => first | rfl | k_is)
    (case m9_4 => first | rfl | k_is)
    (case m9_5 => first | rfl | k_is)
    (case m9_6 => first | rfl | k_is)
    (case m9_7 => first | rfl | k_is)
    (case m9_8 => first | rfl | k_is)
    (case m9_9 => first | rfl | k_is)
    (case m9_10 => first | rfl | k_is)
    (case m9_11 => first | rfl | k_is)
    (case m9_12 => first | rfl | k_is)
    (case m9_13 => first | rfl | k_is)
    (case mp9 => first | rfl | k_is)
    (case mV9 => first | rfl | k_is)
    (case mL9 => first | rfl | k_is)
    (case mO9 => first | rfl | k_is)
    (case mR9 => first | rfl | k_is)
    (case m10_0 => first | rfl | k_is)
    (case m10_1 => first | rfl | k_is)
    (case m10_2 => first | rfl | k_is)
    (case m10_3 => first | rfl | k_is)
    (case m10_4 => first | rfl | k_is)
    (case m10_5 => first | rfl | k_is)
    (case m10_6 => first | rfl | k_is)
    (case m10_7 => first | rfl | k_is)
    (case m10_8 => first | rfl | k_is)
    (case m10_9 => first | rfl | k_is)
    (case m10_10 => first | rfl | k_is)
    (case m10_11 => first | rfl | k_is)
    (case m10_12 => first | rfl | k_is)
    (case m10_13 => first | rfl | k_is)
    (case mp10 => first | rfl | k_is)
    (case mV10 => first | rfl | k_is)
    (case mL10 => first | rfl | k_is)
    (case mO10 => first | rfl | k_is)
    (case mR10 => first | rfl | k_is)
    (case m11_0 => first | rfl | k_is)
    (case m11_1 => first | rfl | k_is)
    (case m11_2 => first | rfl | k_is)
    (case m11_3 => first | rfl | k_is)
    (case m11_4 => first | rfl | k_is)
    (case m11_5 => first | rfl | k_is)
    (case m11_6 => first | rfl | k_is)
    (case m11_7 => first | rfl | k_is)
    (case m11_8 => first | rfl | k_is)
    (case m11_9 => first | rfl | k_is)
    (case m11_10 => first | rfl | k_is)
    (case m11_11 => first | rfl | k_is)
    (case m11_12 => first | rfl | k_is)
    (case m11_13 => first | rfl | k_is)
    (case mp11 => first | rfl | k_is)
    (case mV11 => first | rfl | k_is)
    (case mL11 => first | rfl | k_is)
    (case mO11 => first | rfl | k_is)
    (case mR11 => first | rfl | k_is)
    (case m12_0 => first | rfl | k_is)
    (case m12_1 => first | rfl | k_is)
    (case m12_2 => first | rfl | k_is)
    (case m12_3 => first | rfl | k_is)
    (case m12_4 => first | rfl | k_is)
    (case m12_5 => first | rfl | k_is)
    (case m12_6 => first | rfl | k_is)
    (case m12_7 => first | rfl | k_is)
    (case m12_8 => first | rfl | k_is)
    (case m12_9 => first | rfl | k_is)
    (case m12_10 => first | rfl | k_is)
    (case m12_11 => first | rfl | k_is)
    (case m12_12 => first | rfl | k_is)
    (case m12_13 => first | rfl | k_is)
    (case mp12 => first | rfl | k_is)
    (case mV12 => first | rfl | k_is)
    (case mL12 => first | rfl | k_is)
    (case mO12 => first | rfl | k_is)
    (case mR12 => first | rfl | k_is)
    (case m13_0 => first | rfl | k_is)
    (case m13_1 => first | rfl | k_is)
    (case m13_2 => first | rfl | k_is)
    (case m13_3 => first | rfl | k_is)
    (case m13_4 => first | rfl | k_is)
    (case m13_5 => first | rfl | k_is)
    (case m13_6 => first | rfl | k_is)
    (case m13_7 => first | rfl | k_is)
    (case m13_8 => first | rfl | k_is)
    (case m13_9 => first | rfl | k_is)
    (case m13_10 => first | rfl | k_is)
    (case m13_11 => first | rfl | k_is)
    (case m13_12 => first | rfl | k_is)
    (case m13_13 => first | rfl | k_is)
    (case mp13 => first | rfl | k_is)
    (case mV13 => first | rfl | k_is)
    (case mL13 => first | rfl | k_is)
    (case mO13 => first | rfl | k_is)
    (case mR13 => first | rfl | k_is)
    (case dhn => k_is)
    (case dtk => k_is)
    (case l_0 => k_is)
    (case c_0 => k_is)
    (case k_0 => k_is)
    (case l_1 => k_is)
    (case c_1 => k_is)
    (case k_1 => k_is)
    (case l_2 => k_is)
    (case c_2 => k_is)
    (case k_2 => k_is)
    (case l_3 => k_is)
    (case c_3 => k_is)
    (case k_3 => k_is)
    (case l_4 => k_is)
    (case c_4 => k_is)
    (case k_4 => k_is)
    (case l_5 => k_is)
    (case c_5 => k_is)
    (case k_5 => k_is)
    (case l_6 => k_is)
    (case c_6 => k_is)
    (case k_6 => k_is)
    (case l_7 => k_is)
    (case c_7 => k_is)
    (case k_7 => k_is)
    (case l_8 => k_is)
    (case c_8 => k_is)
    (case k_8 => k_is)
    (case l_9 => k_is)
    (case c_9 => k_is)
    (case k_9 => k_is)
    (case l_10 => k_is)
    (case c_10 => k_is)
    (case k_10 => k_is)
    (case l_11 => k_is)
    (case c_11 => k_is)
    (case k_11 => k_is)
    (case l_12 => k_is)
    (case c_12 => k_is)
    (case k_12 => k_is)
    (case l_13 => k_is)
    (case c_13 => k_is)
    (case k_13 => k_is)
    (case n_f0 => k_is)
    (case l_f0 => k_is)
    (case c_f0 => k_is)
    (case k_f0 => k_is)
    (case n_f1 => k_is)
    (case l_f1 => k_is)
    (case c_f1 => k_is)
    (case k_f1 => k_is)
    (case n_f2 => k_is)
    (case l_f2 => k_is)
    (case c_f2 => k_is)
    (case k_f2 => k_is)
    (case n_f3 => k_is)
    (case l_f3 => k_is)
    (case c_f3 => k_is)
    (case k_f3 => k_is)
    (case n_f4 => k_is)
    (case l_f4 => k_is)
    (case c_f4 => k_is)
    (case k_f4 => k_is)
    (case n_f5 => k_is)
    (case l_f5 => k_is)
    (case c_f5 => k_is)
    (case k_f5 => k_is)
    (case z_max => k_is)
    (case z_range => k_is)
    (case z_len => k_is)
    (case z_isinstance => k_is)
    (case z_repr => k_is)
    (case z_enumerate => k_is)
    (case z_ValueError => k_is)
    (case z_LookupError => k_is)
    (case z_OverflowError => k_is)
    (case z_RuntimeError => k_is)

