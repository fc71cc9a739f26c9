import PyProof.Rows.All
import Wide.All
import OpenK.AllK
import Wide.FinOn
import HandS.Base
import HandS.Call
import HandS.List
import HandS.Comp
import HandS.Ends
import HandS.Dict
import HandS.Iter
import HandS.Text
import HandS.Words
import HandS.IsInst
import HandS.Style
import HandS.Walk
import HandS.TupAny
import HandS.More
import HandS.Exc
import HandS.ExcOwn
import HandS.ExcInit
import HandS.ExcField
import HandS.WordsExc
import HandS.Slots
import HandS.Star
import HandS.ClsMeth
import HandS.Property
import HandS.Deep
import HandS.Strs
import HandS.RaiseMore
import HandS.CallSlots
import KE.GoesMore
import HandS.Codes
import PySem.Challenge.RW_pulledout_k06_pullers_rows
set_option Elab.async false
set_option linter.all false
set_option maxRecDepth 100000
set_option maxHeartbeats 4000000
/-! What holds of no program alone: heaps, data at a value, a pool that is drawn from. -/
namespace GG
open PySem PySem.Spec PyProof.Rows L2 TL
theorem same_upd {H : Hp} {p : Addr} {o : HO} (h : H p = none) : Same H (upd H p o) := fun b x e => by
  rw [upd_ne (ne_of_none e h)]
  exact e
/-- behind a store into a new object all that stood before stands -/
theorem same_st {H H1 : Hp} {p : Addr} {o : HO} (s : Same H H1) (h : H p = none) : Same H (upd H1 p o) := fun b x e => by
  rw [upd_ne (ne_of_none e h)]
  exact s b x e
/-- each number lies below its size -/
def Below (zs ns : List Int) : Prop := ∀ (i : Nat) (z n : Int), zs[i]? = some z → ns[i]? = some n → 0 ≤ n ∧ n < z
theorem below_snoc {zs ns : List Int} {z n : Int} (h : Below zs ns) (hz : zs[ns.length]? = some z) (h0 : 0 ≤ n) (h1 : n < z) : Below zs (ns ++ [n]) := by
  intro i y m hy hm
  by_cases hi : i < ns.length
  · rw [List.getElem?_append_left hi] at hm
    exact h i y m hy hm
  · rw [List.getElem?_append_right (by omega)] at hm
    have e : i - ns.length = 0 := by
      have q := (List.getElem?_eq_some_iff.mp hm).1
      simp at q
      omega
    have ei : i = ns.length := by omega
    subst ei
    rw [e] at hm
    have em : n = m := Option.some.inj hm
    have ey : z = y := Option.some.inj (hz.symm.trans hy)
    subst em ey
    exact ⟨h0, h1⟩
theorem small_mod (x : Int) : (x % 2147483629).natAbs < 2 ^ 64 := by
  have h1 := Int.emod_nonneg x (show (2147483629 : Int) ≠ 0 by decide)
  have h2 := Int.emod_lt_of_pos x (show (0 : Int) < 2147483629 by decide)
  omega
/-! ### data -/
def tyName : PyData → String
  | .none => "NoneType"
  | .bool _ => "bool"
  | .int _ => "int"
  | .str _ => "str"
  | .list _ => "list"
  | .tuple _ => "tuple"
  | .dict _ => "dict"
def isTup : PyData → Bool
  | .tuple _ => true
  | _ => false
def isStr : PyData → Bool
  | .str _ => true
  | _ => false
theorem isi_tup {K : PySem.W.Frag} (d : PyData) : PySem.W.kitOne K (.type (tyName d)) (.type "tuple") = some (isTup d) := by
  cases d
  · exact kit_ty (show kitB "NoneType" "tuple" = some false by decide +kernel)
  · exact kit_ty (show kitB "bool" "tuple" = some false by decide +kernel)
  · exact kit_ty (show kitB "int" "tuple" = some false by decide +kernel)
  · exact kit_ty (show kitB "str" "tuple" = some false by decide +kernel)
  · exact kit_ty (show kitB "list" "tuple" = some false by decide +kernel)
  · exact kit_ty (show kitB "tuple" "tuple" = some true by decide +kernel)
  · exact kit_ty (show kitB "dict" "tuple" = some false by decide +kernel)
theorem isi_str {K : PySem.W.Frag} (d : PyData) : PySem.W.kitOne K (.type (tyName d)) (.type "str") = some (isStr d) := by
  cases d
  · exact kit_ty (show kitB "NoneType" "str" = some false by decide +kernel)
  · exact kit_ty (show kitB "bool" "str" = some false by decide +kernel)
  · exact kit_ty (show kitB "int" "str" = some false by decide +kernel)
  · exact kit_ty (show kitB "str" "str" = some true by decide +kernel)
  · exact kit_ty (show kitB "list" "str" = some false by decide +kernel)
  · exact kit_ty (show kitB "tuple" "str" = some false by decide +kernel)
  · exact kit_ty (show kitB "dict" "str" = some false by decide +kernel)
theorem Rd.same {H H' : Hp} {a : Addr} {o : HO} (s : Same H H') (h : Rd H a o) : Rd H' a o := by
  rcases h with h | ⟨u, h⟩
  · exact .inl (s _ _ h)
  · exact .inr ⟨u, s _ _ h⟩
theorem Same.seqT {K : PySem.W.Frag} {H H' : Hp} {a : Addr} {xs : List V} (e : Same H H') (h : SqT K H a xs) : SqT K H' a xs := by
  rcases h with h | h
  · exact .inl (Rd.same e h)
  · exact .inr h
mutual
theorem dp_same {K : PySem.W.Frag} {H H' : Hp} (e : Same H H') : ∀ (d : PyData) (v : V), Dp K H v d → Dp K H' v d
  | .none, _, h => by cases h; exact .non
  | .bool b, _, h => by cases h; exact .bl b
  | .int i, _, h => by cases h; exact .int i
  | .str x, _, h => by cases h; exact .str x
  | .list ds, _, h => by
    cases h with
    | lst hs ha => exact .lst (Same.seq e hs) (dpAll_same e ds _ ha)
  | .tuple ds, _, h => by
    cases h with
    | tup hs ha => exact .tup (Same.seqT e hs) (dpAll_same e ds _ ha)
  | .dict _, _, h => by cases h
theorem dpAll_same {K : PySem.W.Frag} {H H' : Hp} (e : Same H H') : ∀ (ds : List PyData) (vs : List V), DpAll K H vs ds → DpAll K H' vs ds
  | [], _, h => by cases h; exact .nil
  | d :: ds, _, h => by
    cases h with
    | cons h1 h2 => exact .cons (dp_same e d _ h1) (dpAll_same e ds _ h2)
end
theorem dpAll_len {K : PySem.W.Frag} {H : Hp} : ∀ {vs : List V} {ds : List PyData}, DpAll K H vs ds → vs.length = ds.length
  | _, _, .nil => rfl
  | _, _, .cons _ h => by rw [List.length_cons, List.length_cons, dpAll_len h]
theorem dpAll_get {K : PySem.W.Frag} {H : Hp} : ∀ {vs : List V} {ds : List PyData} {i : Nat} {v : V}, DpAll K H vs ds → vs[i]? = some v → ∃ d, ds[i]? = some d ∧ Dp K H v d
  | _, _, 0, _, .cons (d := d) h _, e => by
    have e : _ = _ := Option.some.inj e
    subst e
    exact ⟨d, rfl, h⟩
  | _, _, i + 1, _, .cons _ h, e => dpAll_get (i := i) h e
theorem dp_ty {K : PySem.W.Frag} {H : Hp} {v : V} {d : PyData} (h : Dp K H v d) : TyX K H v (.type (tyName d)) := by
  cases h with
  | non => exact .base .non
  | bl b => exact .base (.bl b)
  | int i => exact .base (.int i)
  | str x => exact .base (.str x)
  | lst hs _ =>
    rcases hs with (h | ⟨o, h⟩) | ⟨o, its, n, h1, h2, _⟩
    · exact .base (.lst h)
    · exact .base (.frz h)
    · exact .kList h1 h2
  | tup hs _ =>
    rcases hs with (h | ⟨o, h⟩) | ⟨o, its, n, h1, h2, _⟩
    · exact .base (.tup h)
    · exact .fTuple h
    · exact .kTuple h1 h2
mutual
/-- sane texts, nothing long -/
def okD : PyData → Bool
  | .str z => decide (z.length ≤ 1000) && z.cps.all (· < 0x110000)
  | .list ds | .tuple ds => decide (ds.length ≤ 1000) && okAll ds
  | .dict _ => false
  | _ => true
def okAll : List PyData → Bool
  | [] => true
  | d :: ds => okD d && okAll ds
end
mutual
theorem can_ok : ∀ d : PyData, okD d = true → PyData.canLay0 d = true
  | .none, _ => rfl
  | .bool _, _ => rfl
  | .int _, _ => rfl
  | .str z, h => (Bool.and_eq_true_iff.mp h).2
  | .list ds, h => canAll_ok ds (Bool.and_eq_true_iff.mp h).2
  | .tuple ds, h => canAll_ok ds (Bool.and_eq_true_iff.mp h).2
theorem canAll_ok : ∀ ds : List PyData, okAll ds = true → PyData.canLayAll0 ds = true
  | [], _ => rfl
  | d :: ds, h => by
    have h := Bool.and_eq_true_iff.mp h
    show (PyData.canLay0 d && PyData.canLayAll0 ds) = true
    rw [can_ok d h.1, canAll_ok ds h.2]
    rfl
end
theorem okAll_iff {ds : List PyData} : okAll ds = true ↔ ∀ d ∈ ds, okD d = true := by
  induction ds with
  | nil => simp [okAll]
  | cons d r ih => simp [okAll, ih]
theorem depthAll_le {ds : List PyData} {n : Nat} : PyData.depthAll ds ≤ n ↔ ∀ d ∈ ds, PyData.depth d ≤ n := by
  induction ds with
  | nil => simp [PyData.depthAll]
  | cons d r ih => simp [PyData.depthAll, ih, Nat.max_le]
def Good (n : Nat) (d : PyData) : Prop := okD d = true ∧ PyData.depth d ≤ n
theorem Good.lay {n : Nat} {d : PyData} (h : Good n d) (hn : n ≤ 64) : SeqAt.shaped d = true := by
  unfold SeqAt.shaped
  rw [Bool.and_eq_true, decide_eq_true_eq]
  exact ⟨can_ok d h.1, Nat.le_trans h.2 hn⟩
theorem Good.tup {n : Nat} {ds : List PyData} : Good (n + 1) (.tuple ds) ↔ ds.length ≤ 1000 ∧ ∀ d ∈ ds, Good n d := by
  unfold Good
  show (decide (ds.length ≤ 1000) && okAll ds) = true ∧ PyData.depthAll ds + 1 ≤ n + 1 ↔ _
  rw [Bool.and_eq_true, decide_eq_true_eq, okAll_iff, Nat.add_le_add_iff_right, depthAll_le]
  exact ⟨fun h => ⟨h.1.1, fun d hd => ⟨h.1.2 d hd, h.2 d hd⟩⟩, fun h => ⟨⟨h.1, fun d hd => (h.2 d hd).1⟩, fun d hd => (h.2 d hd).2⟩⟩
theorem Good.lst {n : Nat} {ds : List PyData} : Good (n + 1) (.list ds) ↔ ds.length ≤ 1000 ∧ ∀ d ∈ ds, Good n d := Good.tup
theorem Good.mono {n m : Nat} {d : PyData} (h : Good n d) (k : n ≤ m) : Good m d := ⟨h.1, Nat.le_trans h.2 k⟩
/-- a value that stands for the data d; or any dict -/
def Val (K : PySem.W.Frag) (H : Hp) (x : V) (d : PyData) : Prop := (Dp K H x d ∧ Good 60 d) ∨ (d = .dict [] ∧ ∃ (a : Addr) (kvs : List (Key × V)), x = .ref a ∧ H a = some (.dK kvs))
theorem Val.ty {K : PySem.W.Frag} {H : Hp} {x : V} {d : PyData} (h : Val K H x d) : TyX K H x (.type (tyName d)) := by
  rcases h with h | ⟨rfl, a, kvs, rfl, h⟩
  · exact dp_ty h.1
  · exact .base (.dK h)
theorem Val.str {K : PySem.W.Frag} {H : Hp} {x : V} {z : Str} (h : Val K H x (.str z)) : x = .str z ∧ z.length ≤ 1000 ∧ (∀ c ∈ z.cps.toList, c < 1114112) := by
  rcases h with ⟨h, g⟩ | ⟨h, _⟩
  · cases h
    obtain ⟨h1, h2⟩ := Bool.and_eq_true_iff.mp g.1
    refine ⟨rfl, of_decide_eq_true h1, fun c hc => ?_⟩
    rw [← Array.all_toList, List.all_eq_true] at h2
    exact of_decide_eq_true (h2 c hc)
  · cases h
theorem Val.tup {K : PySem.W.Frag} {H : Hp} {x : V} {ds : List PyData} (h : Val K H x (.tuple ds)) : ∃ (a : Addr) (xs : List V), x = .ref a ∧ SqT K H a xs ∧ DpAll K H xs ds ∧ xs.length = ds.length ∧ ds.length ≤ 1000 ∧ ∀ (i : Nat) (d : PyData), ds[i]? = some d → ∃ v, xs[i]? = some v ∧ Val K H v d := by
  rcases h with ⟨h, g⟩ | ⟨h, _⟩
  · cases h with
    | @tup a xs _ hs ha =>
      obtain ⟨g1, g2⟩ := (Good.tup (n := 59)).mp g
      have hl := dpAll_len ha
      refine ⟨_, _, rfl, hs, ha, hl, g1, fun i d hd => ?_⟩
      have hi : i < ds.length := (List.getElem?_eq_some_iff.mp hd).1
      have hi2 : i < xs.length := by omega
      obtain ⟨d', hd', hp⟩ := dpAll_get ha (List.getElem?_eq_getElem hi2)
      have e : d' = d := Option.some.inj (hd'.symm.trans hd)
      subst e
      exact ⟨_, List.getElem?_eq_getElem hi2, .inl ⟨hp, (g2 d' (List.mem_of_getElem? hd)).mono (by decide)⟩⟩
  · cases h
theorem Val.same {K : PySem.W.Frag} {H H' : Hp} {x : V} {d : PyData} (h : Val K H x d) (s : Same H H') : Val K H' x d := by
  rcases h with ⟨h, g⟩ | ⟨rfl, a, kvs, rfl, h⟩
  · exact .inl ⟨dp_same s d x h, g⟩
  · exact .inr ⟨rfl, a, kvs, rfl, s _ _ h⟩
theorem inV_words {z : Str} : ∀ ws : List Str, inV (.str z) (ws.map V.str) = ws.any (· == z) := fun ws => by
  unfold inV
  rw [List.any_map]
  rfl
theorem flat_words : ∀ ws : List Str, (ws.map V.str).all flatV = true := fun ws => by
  rw [List.all_map, List.all_eq_true]
  intro x _
  rfl
theorem yes_then {A B : Hp → Prop} {σ : L2.St} {H : Hp} (h : A H) : tYes σ H (fun b H3 => if b = true then A H3 else B H3) := by
  show (if true = true then A H else B H)
  rw [if_pos rfl]
  exact h
def letB (c : Nat) : Bool := !decide ([c] < [97]) && !decide ([122] < [c])
/-! ### the mathematics of the texts -/
/-- the 26 letters, as the law writes them -/
abbrev abcS : Str := "abcdefghijklmnopqrstuvwxyz"
theorem abc_list : abcS.cps.toList = (List.range 26).map (97 + ·) := by decide +kernel
theorem abc_mem (c : Nat) : c ∈ abcS.cps.toList ↔ 97 ≤ c ∧ c ≤ 122 := by
  rw [abc_list]
  simp only [List.mem_map, List.mem_range]
  constructor
  · rintro ⟨a, h, rfl⟩
    omega
  · intro h
    exact ⟨c - 97, by omega, by omega⟩
theorem one_lt (a b : Nat) : ([a] < [b]) ↔ a < b := by
  simp [List.cons_lt_cons_iff]
theorem letB_abc (c : Nat) : letB c = decide (c ∈ abcS.cps.toList) := by
  unfold letB
  rw [Bool.eq_iff_iff]
  simp only [Bool.and_eq_true, Bool.not_eq_true', decide_eq_false_iff_not, decide_eq_true_eq, one_lt, abc_mem]
  omega
/-- a text of Python's own signs -/
def Sane (z : Str) : Prop := ∀ c ∈ z.cps.toList, c < 1114112
theorem sane_odds {z : Str} (h : Sane z) : ∀ y ∈ (z.cps.toList.filter fun c => !decide (c ∈ abcS.cps.toList)).map (fun c => (⟨#[c]⟩ : Str)), Sane y := by
  intro y hy c hc
  obtain ⟨d, hd, rfl⟩ := List.mem_map.mp hy
  have e : c = d := by simpa using hc
  rw [e]
  exact h d ((List.mem_filter.mp hd).1)
def oddC (c : Nat) : Bool := !decide (c ∈ abcS.cps.toList)
def odds (cs : List Nat) : List Str := (cs.filter oddC).map fun c => ⟨#[c]⟩
theorem odds_snoc {cs : List Nat} {i c : Nat} (hc : cs[i]? = some c) : odds (cs.take (i + 1)) = odds (cs.take i) ++ (if oddC c = true then [⟨#[c]⟩] else []) := by
  unfold odds
  rw [List.take_add_one, hc, List.filter_append, List.map_append]
  congr 1
  show List.map _ (List.filter oddC [c]) = _
  cases h : oddC c <;> simp [h]
theorem odds_len (cs : List Nat) : (odds cs).length ≤ cs.length := by
  unfold odds
  rw [List.length_map]
  exact List.length_filter_le ..
theorem odds_nil (cs : List Nat) : (odds cs).isEmpty = cs.all letB := by
  unfold odds
  rw [List.isEmpty_map]
  induction cs with
  | nil => rfl
  | cons c r ih =>
    rw [List.filter_cons, List.all_cons, letB_abc, ← ih]
    unfold oddC
    cases decide (c ∈ abcS.cps.toList) <;> rfl
theorem dp_strs {K : PySem.W.Frag} {H : Hp} : ∀ ys : List Str, DpAll K H (ys.map V.str) (ys.map PyData.str)
  | [] => .nil
  | y :: r => .cons (.str y) (dp_strs r)
theorem strs_can : ∀ ys : List Str, (∀ y ∈ ys, Sane y) → PyData.canLayAll0 (ys.map PyData.str) = true ∧ PyData.depthAll (ys.map PyData.str) ≤ 1
  | [], _ => ⟨rfl, by decide⟩
  | y :: r, h => by
    obtain ⟨h1, h2⟩ := strs_can r fun z hz => h z (List.mem_cons_of_mem _ hz)
    refine ⟨?_, ?_⟩
    · show (PyData.canLay0 (PyData.str y) && PyData.canLayAll0 (r.map PyData.str)) = true
      rw [h1, Bool.and_true]
      show y.cps.all (· < 0x110000) = true
      rw [← Array.all_toList, List.all_eq_true]
      intro c hc
      exact decide_eq_true (h y (List.mem_cons_self ..) c hc)
    · show max (PyData.depth (PyData.str y)) (PyData.depthAll (r.map PyData.str)) ≤ 1
      exact Nat.max_le.mpr ⟨by simp [PyData.depth], h2⟩
theorem strs_lay (ys : List Str) (h : ∀ y ∈ ys, Sane y) : SeqAt.shaped (PyData.list (ys.map PyData.str)) = true := by
  obtain ⟨h1, h2⟩ := strs_can ys h
  unfold SeqAt.shaped
  rw [Bool.and_eq_true, decide_eq_true_eq]
  refine ⟨h1, ?_⟩
  show PyData.depthAll (ys.map PyData.str) + 1 ≤ 64
  omega
theorem strs_eqv (ys : List Str) : PyData.eqv (PyData.list (ys.map PyData.str)) (PyData.list []) = ys.isEmpty := by
  cases ys with
  | nil => rfl
  | cons y r => rfl
section
variable {K : PySem.W.Frag}
theorem Val.dp {H : Hp} {x : V} {ds : List PyData} (h : Val K H x (.tuple ds)) : Dp K H x (.tuple ds) ∧ Good 60 (.tuple ds) := by
  rcases h with h | ⟨h, _⟩
  · exact h
  · cases h
theorem eqv_unit (ds : List PyData) : PyData.eqv (.tuple ds) (.tuple []) = ds.isEmpty := by
  cases ds <;> rfl
theorem two {α : Type} {r : List α} (h : r.length = 2) : ∃ a b, r = [a, b] := by
  match r, h with
  | [a, b], _ => exact ⟨a, b, rfl⟩
theorem filt_snoc {es : List PyData} {i : Nat} {e : PyData} (h : es[i]? = some e) (g : PyData → Bool) : (es.take (i + 1)).filter g = (es.take i).filter g ++ (if g e = true then [e] else []) := by
  rw [List.take_add_one, h, List.filter_append]
  congr 1
  show List.filter g [e] = _
  cases k : g e <;> simp [k]
theorem filt_all (es : List PyData) (g : PyData → Bool) : (es.filter fun e => !g e).isEmpty = es.all g := by
  induction es with
  | nil => rfl
  | cons e r ih =>
    rw [List.filter_cons, List.all_cons, ← ih]
    cases k : g e <;> simp
theorem eqv_nil (es : List PyData) : PyData.eqv (.list es) (.list []) = es.isEmpty := by
  cases es <;> rfl
theorem dpAll_app {H : Hp} : ∀ {xs ys : List V} {ds es : List PyData}, DpAll K H xs ds → DpAll K H ys es → DpAll K H (xs ++ ys) (ds ++ es)
  | _, _, _, _, .nil, k => k
  | _, _, _, _, .cons h r, k => .cons h (dpAll_app r k)
theorem Val.dp1 {H : Hp} {x : V} {d : PyData} (h : Val K H x d) (k : ∀ e, d ≠ .dict e) : Dp K H x d := by
  rcases h with h | ⟨h, _⟩
  · exact h.1
  · exact absurd h (k _)
theorem okD_dict {d : PyData} (h : okD d = true) : ∀ e, d ≠ .dict e := by
  intro e k
  subst k
  cases h
/-! ### the pool: what stands apart from it -/
def Rest (p : Addr) (R H : Hp) : Prop := Same R H ∧ R p = none ∧ ∃ (d : Addr) (ns : List Int) (k : Int), H p = some (.lst [.ref d, .int k]) ∧ R d = some (.lst (ns.map V.int)) ∧ 0 ≤ k
def Keep (p : Addr) (H H' : Hp) : Prop := ∀ b, b ≠ p → ∀ o, H b = some o → H' b = some o
structure Go (p : Addr) (R H R' H' : Hp) : Prop where
  same : Same R R'
  rest : Rest p R' H'
  keep : Keep p H H'
  fresh : ∀ b o, H b = some o → R b = none → R' b = none
theorem Rest.go {p : Addr} {R H : Hp} (k : Rest p R H) : Go p R H R H := ⟨Same.refl _, k, fun _ _ _ h => h, fun _ _ _ h => h⟩
theorem Go.trans {p : Addr} {R H R1 H1 R2 H2 : Hp} (a : Go p R H R1 H1) (b : Go p R1 H1 R2 H2) : Go p R H R2 H2 :=
  ⟨a.same.trans b.same, b.rest, fun c hc o h => b.keep c hc o (a.keep c hc o h), fun c o h hr => by
    by_cases e : c = p
    · rw [e]
      exact b.rest.2.1
    · exact b.fresh c o (a.keep c e o h) (a.fresh c o h hr)⟩
theorem Rest.ne {p D : Addr} {R H : Hp} (k : Rest p R H) (h : H D = none) : D ≠ p := fun e => by
  obtain ⟨_, _, d, ns, n, hp, _⟩ := k
  rw [e, hp] at h
  cases h
theorem Go.new {p t : Addr} {R H : Hp} {o : HO} (k : Rest p R H) (h : H t = none) : Go p R H (upd R t o) (upd H t o) := by
  have hne := k.ne h
  obtain ⟨s, hRp, d, ns, n, hp, hd, hn⟩ := k
  refine ⟨same_upd (s.free h), ⟨fun b x e => ?_, ?_, d, ns, n, ?_, (same_upd (s.free h)) _ _ hd, hn⟩, fun b _ x e => same_upd h b x e, fun b x e hr => ?_⟩
  · by_cases hb : b = t
    · subst hb
      rw [upd_same] at e ⊢
      exact e
    · rw [upd_ne hb] at e ⊢
      exact s b x e
  · rw [upd_ne hne.symm]
    exact hRp
  · rw [upd_ne hne.symm]
    exact hp
  · rw [upd_ne (ne_of_none e h)]
    exact hr
theorem Go.same_heap {p : Addr} {R H H' : Hp} (k : Rest p R H) (s : Same H H') : Go p R H R H' := by
  obtain ⟨s0, hRp, d, ns, n, hp, hd, hn⟩ := k
  exact ⟨Same.refl _, ⟨s0.trans s, hRp, d, ns, n, s _ _ hp, hd, hn⟩, fun b _ o h => s b o h, fun _ _ _ h => h⟩
/-- a store into a list that is being made -/
theorem Rest.put {p D : Addr} {R H : Hp} {o : HO} (k : Rest p R H) (hR : R D = none) (hne : D ≠ p) : Rest p R (upd H D o) := by
  obtain ⟨s0, hRp, d, ns, n, hp, hd, hn⟩ := k
  exact ⟨same_st s0 hR, hRp, d, ns, n, by rw [upd_ne hne.symm]; exact hp, hd, hn⟩
theorem Dp.go {p : Addr} {R H R' H' : Hp} {v : V} {d : PyData} (g : Go p R H R' H') (h : Dp K R v d) : Dp K R' v d := dp_same g.same d v h
/-- a comprehension that draws -/
theorem lc_go {J : It} {n : Nat} {G : Hp → Prop} {Y : Nat → Hp → V → Hp → Prop} (wk : Walk J n G Y) {p : Addr} {R H : Hp} {D : Addr} (hn : n ≤ 1000) (k : Rest p R H) (hD : H D = none) (hG : ∀ R1 H1, Go p R H R1 H1 → G H1)
    (PP : Hp → V → Prop) (Pm : ∀ R1 R2 y, Same R1 R2 → PP R1 y → PP R2 y) {g : TG} {tt : TT} {te : TE} {vs : List Nat} {σ : L2.St} {Qd : Hp → Prop}
    (hs : ∀ i x R1 H1 H1', i < n → Go p R H R1 H1 → Y i H1 x H1' → ∀ (C : V → Hp → Prop) (E : Hp → Prop), (∀ R2 H2 y, Go p R1 H1 R2 H2 → PP R2 y → C y H2) →
      g x (wipe σ vs) H1' fun σ2 H2 => wipe σ2 vs = wipe σ vs ∧ tt σ2 H2 fun b H3 => if b = true then te σ2 H3 C else E H3)
    (hd : ∀ R1 H1 ys, Go p R H R1 H1 → R1 D = some (.lst ys) → ys.length = n → (∀ y ∈ ys, PP R1 y) → Qd H1) :
    ∃ W : Nat → Nat → Hp → Prop, (∃ m, W 0 m (upd H D (.lst []))) ∧ ∀ i m H, W i m H →
      (J.stop i H ∧ Qd H) ∨ (J.go i H ∧ ∃ Nx : Hp → Prop, (∀ H', Nx H' → ∃ m', m' < m ∧ W (i + 1) m' H') ∧ ∀ x H', J.yld i H x H' → g x (wipe σ vs) H' fun σ2 H2 => wipe σ2 vs = wipe σ vs ∧ tt σ2 H2 fun b H3 =>
        if b = true then te σ2 H3 fun y H4 => ∃ acc, H4 D = some (.lst acc) ∧ acc.length < sizeLine ∧ Nx (upd H4 D (.lst (acc ++ [y]))) else Nx H3) := by
  have hne := k.ne hD
  have hRD : R D = none := k.1.free hD
  refine lc_it wk (fun i H' => ∃ R1, Go p R H R1 H' ∧ R1 D = none ∧ ∃ ys : List V, H' D = some (.lst ys) ∧ ys.length = i ∧ ∀ y ∈ ys, PP R1 y) ?_ ?_ ?_ ?_
  · refine ⟨R, ⟨Same.refl _, k.put hRD hne, fun b _ x e => same_upd hD b x e, fun _ _ _ h => h⟩, hRD, [], upd_same, rfl, fun y h => by cases h⟩
  · rintro i H' _ ⟨R1, g1, _⟩
    exact hG R1 H' g1
  · rintro i x H1 H1' hi ⟨R1, g1, hR1, ys, hy, hl, hP⟩ hY
    refine hs i x R1 H1 H1' hi g1 hY _ _ fun R2 H2 y g2 hp => ⟨ys, g2.keep D hne _ hy, small1000 (by omega), R2, ?_, g2.fresh D _ hy hR1, ys ++ [y], upd_same, ?_, ?_⟩
    · have g3 := g1.trans g2
      refine ⟨g3.same, g3.rest.put (g2.fresh D _ hy hR1) hne, fun b hb x e => ?_, g3.fresh⟩
      rw [upd_ne (ne_of_none e hD)]
      exact g3.keep b hb x e
    · rw [List.length_append, List.length_singleton, hl]
    · intro u hu
      rw [List.mem_append, List.mem_singleton] at hu
      rcases hu with hu | rfl
      · exact Pm R1 R2 u g2.same (hP u hu)
      · exact hp
  · rintro H1 ⟨R1, g1, hR1, ys, hy, hl, hP⟩
    have e1 : Same R1 (upd R1 D (.lst ys)) := same_upd hR1
    refine hd (upd R1 D (.lst ys)) H1 ys ⟨g1.same.trans e1, ?_, g1.keep, fun b o e hr => ?_⟩ upd_same hl fun y h => Pm _ _ y e1 (hP y h)
    · obtain ⟨s0, hRp, d, ns, n, hp, hd, hn⟩ := g1.rest
      refine ⟨fun b x e => ?_, by rw [upd_ne hne.symm]; exact hRp, d, ns, n, hp, e1 _ _ hd, hn⟩
      by_cases hb : b = D
      · subst hb
        rw [upd_same] at e
        rw [hy, e]
      · rw [upd_ne hb] at e
        exact s0 b x e
    · rw [upd_ne (ne_of_none e hD)]
      exact g1.fresh b o e hr
theorem at_int {xs : List V} {r : Int} (h0 : 0 ≤ r) (hi : r.toNat < xs.length) : ∃ v, atI xs r = some v ∧ v ∈ xs := by
  have e := atI_nat (List.getElem?_eq_getElem hi)
  rw [Int.toNat_of_nonneg h0] at e
  exact ⟨_, e, List.getElem_mem hi⟩
/-! ### data while the pool is drawn from -/
def cutG {α : Type} (ds : List α) (lo hi : Option Int) : List α := (ds.drop (HT.sIx ds.length 0 lo)).take (HT.sIx ds.length ds.length hi - HT.sIx ds.length 0 lo)
theorem dpAll_drop {H : Hp} : ∀ (n : Nat) {vs : List V} {ds : List PyData}, DpAll K H vs ds → DpAll K H (vs.drop n) (ds.drop n)
  | 0, _, _, h => h
  | n + 1, _, _, .nil => .nil
  | n + 1, _, _, .cons _ h => dpAll_drop n h
theorem dpAll_take {H : Hp} : ∀ (n : Nat) {vs : List V} {ds : List PyData}, DpAll K H vs ds → DpAll K H (vs.take n) (ds.take n)
  | 0, _, _, _ => .nil
  | n + 1, _, _, .nil => .nil
  | n + 1, _, _, .cons h r => .cons h (dpAll_take n r)
theorem dpAll_cut {H : Hp} {vs : List V} {ds : List PyData} (h : DpAll K H vs ds) (lo hi : Option Int) : DpAll K H (cutV vs lo hi) (cutG ds lo hi) := by
  have e := dpAll_len h
  unfold cutV cutG
  rw [e]
  exact dpAll_take _ (dpAll_drop _ h)
theorem cutG_mem {ds : List PyData} {lo hi : Option Int} {d : PyData} (h : d ∈ cutG ds lo hi) : d ∈ ds := List.mem_of_mem_drop (List.mem_of_mem_take h)
theorem cutG_len (ds : List PyData) (lo hi : Option Int) : (cutG ds lo hi).length ≤ ds.length := by
  unfold cutG
  rw [List.length_take, List.length_drop]
  omega
theorem cat_ok {p : Addr} {R H : Hp} {v u : V} {ds es : List PyData} {Q : VK} (k : Rest p R H) (hv : Dp K R v (.tuple ds)) (hu : Dp K R u (.tuple es)) (hl : ds.length + es.length ≤ 1000)
    (hq : ∀ x R' H', Go p R H R' H' → Dp K R' x (.tuple (ds ++ es)) → Q x H') : rCatA K v u H Q := by
  cases hv with
  | @tup a xs _ hs ha =>
    cases hu with
    | @tup b ys _ ht hb =>
      have l1 := dpAll_len ha
      have l2 := dpAll_len hb
      refine ⟨a, b, xs, ys, rfl, rfl, Same.seqT k.1 hs, Same.seqT k.1 ht, Nat.le_of_lt (small1000 (by omega)), fun e => ?_, fun _ e => ?_, fun _ _ t ht => ?_⟩
      · have e2 : ds = [] := List.eq_nil_of_length_eq_zero (by rw [← l1, e]; rfl)
        have := hq (.ref b) R H k.go
        rw [e2] at this
        exact this (.tup ht hb)
      · have e2 : es = [] := List.eq_nil_of_length_eq_zero (by rw [← l2, e]; rfl)
        have := hq (.ref a) R H k.go
        rw [e2, List.append_nil] at this
        exact this (.tup hs ha)
      · exact hq _ _ _ (Go.new k ht) (.tup (.inl (.inl upd_same)) (dpAll_same (Go.new k ht).same _ _ (dpAll_app ha hb)))
theorem slice_ok {p : Addr} {R H : Hp} {v : V} {ds : List PyData} {lo hi : Option Int} {Q : VK} (k : Rest p R H) (hv : Dp K R v (.tuple ds))
    (hq : ∀ x R' H', Go p R H R' H' → Dp K R' x (.tuple (cutG ds lo hi)) → Q x H') : rSlA K v lo hi H Q := by
  cases hv with
  | @tup a xs _ hs ha =>
    have l1 := dpAll_len ha
    refine ⟨a, xs, rfl, Same.seqT k.1 hs, fun e => ?_, fun _ t ht => ?_⟩
    · have e2 : cutG ds lo hi = ds := by
        unfold cutG
        rw [← l1, e.1, e.2, l1]
        show (ds.drop 0).take (ds.length - 0) = ds
        rw [List.drop_zero, Nat.sub_zero, List.take_length]
      have := hq (.ref a) R H k.go
      rw [e2] at this
      exact this (.tup hs ha)
    · exact hq _ _ _ (Go.new k ht) (.tup (.inl (.inl upd_same)) (dpAll_same (Go.new k ht).same _ _ (dpAll_cut ha lo hi)))
theorem slice_lo {p : Addr} {R H : Hp} {v : V} {ds : List PyData} {lo : Option Int} {σ : L2.St} {Q : VK} (k : Rest p R H) (hv : Dp K R v (.tuple ds))
    (hq : ∀ x R' H', Go p R H R' H' → Dp K R' x (.tuple (cutG ds lo none)) → Q x H') : tNoPart σ H (fun u H3 => rSlA K v lo u H3 Q) := slice_ok (hi := none) k hv hq
theorem lst_raw {p t : Addr} {R H : Hp} (vs : List V) (k : Rest p R H) (ht : H t = none) : Go p R H (upd R t (.lst vs)) (upd H t (.lst vs)) ∧ (upd R t (.lst vs)) t = some (.lst vs) := ⟨Go.new k ht, upd_same⟩
theorem tup_new {p t : Addr} {R H : Hp} {vs : List V} {ds : List PyData} (k : Rest p R H) (ht : H t = none) (hv : DpAll K R vs ds) : Go p R H (upd R t (.tup vs)) (upd H t (.tup vs)) ∧ Dp K (upd R t (.tup vs)) (.ref t) (.tuple ds) :=
  ⟨Go.new k ht, .tup (.inl (.inl upd_same)) (dpAll_same (Go.new (o := .tup vs) k ht).same _ _ hv)⟩
theorem lst_new {p t : Addr} {R H : Hp} {vs : List V} {ds : List PyData} (k : Rest p R H) (ht : H t = none) (hv : DpAll K R vs ds) : Go p R H (upd R t (.lst vs)) (upd H t (.lst vs)) ∧ Dp K (upd R t (.lst vs)) (.ref t) (.list ds) :=
  ⟨Go.new k ht, .lst (.inl (.inl upd_same)) (dpAll_same (Go.new (o := .lst vs) k ht).same _ _ hv)⟩
/-- some data of moderate size -/
def PD (K : PySem.W.Frag) (n : Nat) (R : Hp) (x : V) : Prop := ∃ d, Dp K R x d ∧ Good n d
theorem PD.same {n : Nat} {R R' : Hp} {x : V} (h : PD K n R x) (s : Same R R') : PD K n R' x := by
  obtain ⟨d, h, g⟩ := h
  exact ⟨d, dp_same s d x h, g⟩
theorem PD.mono {n m : Nat} {R : Hp} {x : V} (h : PD K n R x) (k : n ≤ m) : PD K m R x := by
  obtain ⟨d, h, g⟩ := h
  exact ⟨d, h, g.mono k⟩
theorem good_str {z : Str} (h : z.length ≤ 1000) (s : Sane z) (n : Nat) : Good n (.str z) := by
  refine ⟨?_, Nat.zero_le _⟩
  show (decide (z.length ≤ 1000) && z.cps.all (· < 0x110000)) = true
  rw [decide_eq_true h, Bool.true_and, ← Array.all_toList, List.all_eq_true]
  exact fun c hc => decide_eq_true (s c hc)
theorem good_t {n : Nat} {ds : List PyData} (h : ds.length ≤ 1000) (g : ∀ d ∈ ds, Good n d) : Good (n + 1) (.tuple ds) := Good.tup.mpr ⟨h, g⟩
end
theorem ints_can : ∀ ns : List Int, PyData.canLayAll0 (ns.map PyData.int) = true ∧ PyData.depthAll (ns.map PyData.int) ≤ 1
  | [] => ⟨rfl, by decide⟩
  | y :: r => by
    obtain ⟨h1, h2⟩ := ints_can r
    refine ⟨?_, ?_⟩
    · show (PyData.canLay0 (PyData.int y) && PyData.canLayAll0 (r.map PyData.int)) = true
      rw [h1]
      rfl
    · show max (PyData.depth (PyData.int y)) (PyData.depthAll (r.map PyData.int)) ≤ 1
      exact Nat.max_le.mpr ⟨by simp [PyData.depth], h2⟩
theorem ints_lay (ns : List Int) : SeqAt.shaped (PyData.list (ns.map PyData.int)) = true := by
  obtain ⟨h1, h2⟩ := ints_can ns
  unfold SeqAt.shaped
  rw [Bool.and_eq_true, decide_eq_true_eq]
  refine ⟨h1, ?_⟩
  show PyData.depthAll (ns.map PyData.int) + 1 ≤ 64
  omega
theorem dp_ints {K : PySem.W.Frag} {H : Hp} : ∀ ys : List Int, DpAll K H (ys.map V.int) (ys.map PyData.int)
  | [] => .nil
  | y :: r => .cons (.int y) (dp_ints r)
theorem same_of {H H1 : Hp} {p : Addr} {o : HO} (s : Same H H1) (h : H1 p = none) : Same H (upd H1 p o) := s.trans (same_upd h)
theorem joinL_mem : ∀ (ls : List (List Nat)) (c : Nat), c ∈ joinL [] ls → ∃ l ∈ ls, c ∈ l
  | [], c, h => by cases h
  | [l], c, h => ⟨l, List.mem_cons_self .., h⟩
  | l :: m :: r, c, h => by
    have h : c ∈ l ++ ([] ++ joinL [] (m :: r)) := h
    rw [List.nil_append, List.mem_append] at h
    rcases h with h | h
    · exact ⟨l, List.mem_cons_self .., h⟩
    · obtain ⟨x, hx, hc⟩ := joinL_mem (m :: r) c h
      exact ⟨x, List.mem_cons_of_mem _ hx, hc⟩
theorem joinL_len : ∀ (ls : List (List Nat)), (joinL [] ls).length = (ls.map List.length).sum
  | [] => rfl
  | [l] => by show l.length = _; simp
  | l :: m :: r => by
    show (l ++ ([] ++ joinL [] (m :: r))).length = _
    rw [List.nil_append, List.length_append, joinL_len (m :: r)]
    rfl
theorem join_facts (ys : List Str) (h : ∀ y ∈ ys, y.length = 1 ∧ Sane y) : (Txt.join "" ys).length = ys.length ∧ Sane (Txt.join "" ys) := by
  have e : (Txt.join "" ys).cps.toList = joinL [] (ys.map tl) := by
    rw [join_eq]
    exact tl_join "" ys
  refine ⟨?_, ?_⟩
  · show (Txt.join "" ys).cps.size = ys.length
    rw [← Array.length_toList, e, joinL_len, List.map_map]
    clear e
    induction ys with
    | nil => rfl
    | cons y r ih =>
      rw [List.map_cons, List.sum_cons, List.length_cons, ih fun z hz => h z (List.mem_cons_of_mem _ hz)]
      have e1 : (List.length ∘ tl) y = 1 := by
        show y.cps.toList.length = 1
        rw [Array.length_toList]
        exact (h y (List.mem_cons_self ..)).1
      rw [e1]
      omega
  · intro c hc
    rw [e] at hc
    obtain ⟨l, hl, hcl⟩ := joinL_mem _ c hc
    obtain ⟨y, hy, rfl⟩ := List.mem_map.mp hl
    exact (h y hy).2 c hcl
theorem join_le (ys : List Str) (h : ∀ y ∈ ys, y.length = 1) : (ys.map (·.length)).sum = ys.length := by
  induction ys with
  | nil => rfl
  | cons y r ih =>
    rw [List.map_cons, List.sum_cons, List.length_cons, ih fun z hz => h z (List.mem_cons_of_mem _ hz), h y (List.mem_cons_self ..)]
    omega
theorem cut_mem {xs : List V} {lo hi : Option Int} {x : V} {i : Nat} (h : (cutV xs lo hi)[i]? = some x) : x ∈ xs := by
  have h1 := List.mem_of_getElem? h
  unfold cutV at h1
  exact List.mem_of_mem_drop (List.mem_of_mem_take h1)
theorem at_abc {r : Int} (h0 : 0 ≤ r) (h1 : r < 26) : ∃ c, atI abcS.cps.toList r = some c ∧ c < 1114112 := by
  have hl : abcS.cps.toList.length = 26 := by decide +kernel
  have hi : r.toNat < abcS.cps.toList.length := by omega
  have e := atI_nat (List.getElem?_eq_getElem hi)
  rw [Int.toNat_of_nonneg h0] at e
  refine ⟨_, e, ?_⟩
  have := (abc_mem _).mp (List.getElem_mem hi)
  omega
section
variable {K : PySem.W.Frag}
theorem pd_all {n : Nat} {R : Hp} : ∀ {ys : List V}, (∀ y ∈ ys, PD K n R y) → ∃ ds, DpAll K R ys ds ∧ ∀ d ∈ ds, Good n d
  | [], _ => ⟨[], .nil, fun d h => by cases h⟩
  | y :: ys, h => by
    obtain ⟨d, h1, h2⟩ := h y (List.mem_cons_self ..)
    obtain ⟨ds, h3, h4⟩ := pd_all fun z hz => h z (List.mem_cons_of_mem _ hz)
    refine ⟨d :: ds, .cons h1 h3, fun e he => ?_⟩
    rcases List.mem_cons.mp he with rfl | he
    · exact h2
    · exact h4 e he
theorem signs_of : ∀ {ys : List V}, (∀ y ∈ ys, ∃ c : Nat, y = .str ⟨#[c]⟩ ∧ c < 1114112) → ∃ zs : List Str, ys = zs.map V.str ∧ zs.length = ys.length ∧ ∀ z ∈ zs, z.length = 1 ∧ Sane z
  | [], _ => ⟨[], rfl, rfl, fun z h => by cases h⟩
  | y :: ys, h => by
    obtain ⟨c, rfl, hc⟩ := h y (List.mem_cons_self ..)
    obtain ⟨zs, h3, h4, h5⟩ := signs_of fun z hz => h z (List.mem_cons_of_mem _ hz)
    refine ⟨⟨#[c]⟩ :: zs, by rw [h3]; rfl, by rw [List.length_cons, List.length_cons, h4], fun e he => ?_⟩
    rcases List.mem_cons.mp he with rfl | he
    · exact ⟨rfl, fun x hx => by
        have : x = c := by simpa using hx
        omega⟩
    · exact h5 e he
theorem mem_app {P : V → Prop} {a b c : List V} (e : a ++ b = c) (h1 : ∀ y ∈ a, P y) (h2 : ∀ y ∈ b, P y) : ∀ y ∈ c, P y := fun y h => by
  rw [← e] at h
  exact (List.mem_append.mp h).elim (h1 y) (h2 y)
end
theorem vals_abs : ∀ (us : List Value) (xs : List V), us.map absV = xs.map some → Vals xs us
  | [], [], _ => .nil
  | [], _ :: _, h => by cases h
  | _ :: _, [], h => by cases h
  | u :: us, x :: xs, h => by
    rw [List.map_cons, List.map_cons, List.cons.injEq] at h
    refine .cons ?_ (vals_abs us xs h.2)
    have h1 := h.1
    cases u <;> simp only [absV] at h1 <;> cases h1 <;> first | rfl | exact ⟨_, rfl⟩
theorem tup_of {K : PySem.W.Frag} {a : Addr} {od : Option Addr} {its : Array Value} {n : Nat} {sl : Array (Option Value)} {ws : List Str} (h : K.lookup a = some ⟨.type "tuple", od, .seq its n, sl⟩) (hv : its.toList.map absV = (ws.map V.str).map some) (hl : ws.length ≤ 1000) : ∀ H, SqT K H a (ws.map V.str) := fun H => by
  have r := vals_abs its.toList _ hv
  refine .inr ⟨_, its, n, h, rfl, rfl, ?_, r⟩
  have e := r.length
  simp only [List.length_map, Array.length_toList] at e
  exact Nat.le_of_lt (small1000 (by rw [← e]; exact hl))
end GG

/-! The rows that the laws draw, as data: what they keep. -/
namespace GG
open PySem PySem.Spec PyProof.Rows L2 TL
abbrev T1 (w : Str) : PyData := .tuple [.str w]
abbrev TS (n : Str) : PyData := .tuple [.str "start", .str n]
abbrev TA3 (m : Str) (o : List PyData) : PyData := .tuple [.str "ask", .str m, .tuple o]
/-- items that keep the rules from where one is under way (u), has the lock (l): to the end, closed; ns, ms: the names of works and marks; t: let may be the last one; a: asks may be there -/
inductive RowOk (ns ms : List Str) (t : Bool) : Bool → Bool → Bool → List PyData → Prop
  | nil {a} : RowOk ns ms t a false false []
  | lets {a} : t = true → RowOk ns ms t a false false [T1 "let"]
  | plain {a u l w r} : w ∈ (["touch", "use"] : List Str) → RowOk ns ms t a u l r → RowOk ns ms t a u l (T1 w :: r)
  | start {a u l n r} : n ∈ ns → RowOk ns ms t a u l r → RowOk ns ms t a u l (TS n :: r)
  | enter {a l r} : RowOk ns ms t a true l r → RowOk ns ms t a false l (T1 "enter" :: r)
  | leave {a l r} : RowOk ns ms t a false l r → RowOk ns ms t a true l (T1 "leave" :: r)
  | lock {a u r} : RowOk ns ms t a u true r → RowOk ns ms t a u false (T1 "lock" :: r)
  | unlock {a u r} : RowOk ns ms t a u false r → RowOk ns ms t a u true (T1 "unlock" :: r)
  | ask {u l m o r} : m ∈ ms → RowOk ns ms t false u l o → o.length ≤ 4 → RowOk ns ms t true u l r → RowOk ns ms t true u l (TA3 m o :: r)
/-- the number of items, with those in ways out -/
def size1 : PyData → Nat
  | .tuple [_, _, .tuple o] => 1 + o.length
  | _ => 1
def sizeR (r : List PyData) : Nat := (r.map size1).sum
theorem sizeR_app (a b : List PyData) : sizeR (a ++ b) = sizeR a + sizeR b := by
  unfold sizeR
  rw [List.map_append, List.sum_append]
/-- what a way's end may be -/
def IsClosing (u l t : Bool) (c : List PyData) : Prop := ∃ b k : List PyData, c = b ++ k ∧ (k = [] ∨ (t = true ∧ k = [T1 "let"])) ∧
  (b = (if l then [T1 "unlock"] else []) ++ (if u then [T1 "leave"] else []) ∨ b = (if u then [T1 "leave"] else []) ++ (if l then [T1 "unlock"] else []))
theorem IsClosing.ok {ns ms : List Str} {u l t a : Bool} {c : List PyData} (h : IsClosing u l t c) : RowOk ns ms t a u l c ∧ sizeR c ≤ 3 ∧ c.length ≤ 3 := by
  obtain ⟨b, k, rfl, hk, hb⟩ := h
  have e : RowOk ns ms t a false false k ∧ sizeR k ≤ 1 ∧ k.length ≤ 1 := by
    rcases hk with rfl | ⟨ht, rfl⟩
    · exact ⟨.nil, by decide, by decide⟩
    · exact ⟨.lets ht, by decide +kernel, by decide⟩
  obtain ⟨e1, e2, e3⟩ := e
  have s1 : sizeR [T1 "unlock"] = 1 := rfl
  have s2 : sizeR [T1 "leave"] = 1 := rfl
  cases u <;> cases l <;> rcases hb with rfl | rfl <;> simp only [if_true, Bool.false_eq_true, if_false, List.nil_append, List.append_nil, List.cons_append, List.length_cons, List.length_append] at *
  · exact ⟨e1, by omega, by omega⟩
  · exact ⟨e1, by omega, by omega⟩
  · exact ⟨.unlock e1, by show 1 + sizeR k ≤ 3; omega, by omega⟩
  · exact ⟨.unlock e1, by show 1 + sizeR k ≤ 3; omega, by omega⟩
  · exact ⟨.leave e1, by show 1 + sizeR k ≤ 3; omega, by omega⟩
  · exact ⟨.leave e1, by show 1 + sizeR k ≤ 3; omega, by omega⟩
  · exact ⟨.unlock (.leave e1), by show 1 + (1 + sizeR k) ≤ 3; omega, by omega⟩
  · exact ⟨.leave (.unlock e1), by show 1 + (1 + sizeR k) ≤ 3; omega, by omega⟩
/-- items so far: whatever goes on well from u, l, is well from the beginning -/
def Pfx (ns ms : List Str) (t a : Bool) (items : List PyData) (u l : Bool) : Prop := ∀ r, RowOk ns ms t a u l r → RowOk ns ms t a false false (items ++ r)
theorem Pfx.nil {ns ms : List Str} {t a : Bool} : Pfx ns ms t a [] false false := fun r h => h
theorem Pfx.snoc {ns ms : List Str} {t a : Bool} {items : List PyData} {u l u' l' : Bool} {i : PyData} (h : Pfx ns ms t a items u l) (k : ∀ r, RowOk ns ms t a u' l' r → RowOk ns ms t a u l (i :: r)) : Pfx ns ms t a (items ++ [i]) u' l' := fun r hr => by
  rw [List.append_assoc]
  exact h _ (k r hr)
/-- u behind an item of the word w, as the law reckons it -/
abbrev nextB (u : Bool) (w a b : Str) : Bool := !decide (V.bl u = V.bl (inV (.str w) [.str a, .str b]))
/-- an item that may stand where one is at u, l -/
def ItemFor (ns ms : List Str) (t u l : Bool) (w : Str) (rest : List PyData) : Prop :=
  ∀ r, RowOk ns ms t true (nextB u w "enter" "leave") (nextB l w "lock" "unlock") r → RowOk ns ms t true u l (.tuple (.str w :: rest) :: r)
theorem item_plain {ns ms : List Str} {t u l : Bool} {w : Str} (h : w ∈ (["touch", "use"] : List Str)) : ItemFor ns ms t u l w [] := by
  intro r hr
  simp only [List.mem_cons, List.not_mem_nil, or_false] at h
  rcases h with rfl | rfl
  · have e1 : nextB u "touch" "enter" "leave" = u := by cases u <;> decide +kernel
    have e2 : nextB l "touch" "lock" "unlock" = l := by cases l <;> decide +kernel
    rw [e1, e2] at hr
    exact .plain (by decide) hr
  · have e1 : nextB u "use" "enter" "leave" = u := by cases u <;> decide +kernel
    have e2 : nextB l "use" "lock" "unlock" = l := by cases l <;> decide +kernel
    rw [e1, e2] at hr
    exact .plain (by decide) hr
theorem item_el {ns ms : List Str} {t u l : Bool} : ItemFor ns ms t u l (if u = true then "leave" else "enter") [] := by
  intro r hr
  cases u with
  | true =>
    have e1 : nextB true "leave" "enter" "leave" = false := by decide +kernel
    have e2 : nextB l "leave" "lock" "unlock" = l := by cases l <;> decide +kernel
    have hr : RowOk ns ms t true (nextB true "leave" "enter" "leave") (nextB l "leave" "lock" "unlock") r := hr
    rw [e1, e2] at hr
    exact .leave hr
  | false =>
    have e1 : nextB false "enter" "enter" "leave" = true := by decide +kernel
    have e2 : nextB l "enter" "lock" "unlock" = l := by cases l <;> decide +kernel
    have hr : RowOk ns ms t true (nextB false "enter" "enter" "leave") (nextB l "enter" "lock" "unlock") r := hr
    rw [e1, e2] at hr
    exact .enter hr
theorem item_lu {ns ms : List Str} {t u l : Bool} : ItemFor ns ms t u l (if l = true then "unlock" else "lock") [] := by
  intro r hr
  cases l with
  | true =>
    have e1 : nextB u "unlock" "enter" "leave" = u := by cases u <;> decide +kernel
    have e2 : nextB true "unlock" "lock" "unlock" = false := by decide +kernel
    have hr : RowOk ns ms t true (nextB u "unlock" "enter" "leave") (nextB true "unlock" "lock" "unlock") r := hr
    rw [e1, e2] at hr
    exact .unlock hr
  | false =>
    have e1 : nextB u "lock" "enter" "leave" = u := by cases u <;> decide +kernel
    have e2 : nextB false "lock" "lock" "unlock" = true := by decide +kernel
    have hr : RowOk ns ms t true (nextB u "lock" "enter" "leave") (nextB false "lock" "lock" "unlock") r := hr
    rw [e1, e2] at hr
    exact .lock hr
theorem item_start {ns ms : List Str} {t u l : Bool} {n : Str} (h : n ∈ ns) : ItemFor ns ms t u l "start" [.str n] := by
  intro r hr
  have e1 : nextB u "start" "enter" "leave" = u := by cases u <;> decide +kernel
  have e2 : nextB l "start" "lock" "unlock" = l := by cases l <;> decide +kernel
  rw [e1, e2] at hr
  exact .start h hr
theorem item_ask {ns ms : List Str} {t u l : Bool} {m : Str} {o : List PyData} (h : m ∈ ms) (ho : RowOk ns ms t false u l o) (h4 : o.length ≤ 4) : ItemFor ns ms t u l "ask" [.str m, .tuple o] := by
  intro r hr
  have e1 : nextB u "ask" "enter" "leave" = u := by cases u <;> decide +kernel
  have e2 : nextB l "ask" "lock" "unlock" = l := by cases l <;> decide +kernel
  rw [e1, e2] at hr
  exact .ask h ho h4 hr
theorem in23 {w : Int} (h : inV (.int w) [.int 2, .int 3] = true) : w = 2 ∨ w = 3 := by
  have h : ((2 : Int) == w || ((3 : Int) == w || false)) = true := h
  simp only [Bool.or_false, Bool.or_eq_true, beq_iff_eq] at h
  omega
theorem not23 {w : Int} (h : ¬ inV (.int w) [.int 2, .int 3] = true) : w ≠ 2 ∧ w ≠ 3 := by
  have h : ¬ ((2 : Int) == w || ((3 : Int) == w || false)) = true := h
  simp only [Bool.or_false, Bool.or_eq_true, beq_iff_eq] at h
  omega
theorem two_at {x y : V} (u : Bool) : atI [x, y] (if u = true then 1 else 0) = some (if u = true then y else x) := by
  cases u <;> rfl
theorem eq_dec {w k : Int} (h : decide (V.int w = V.int k) = true) : w = k := V.int.inj (of_decide_eq_true h)
theorem ne_dec {w k : Int} (h : ¬ decide (V.int w = V.int k) = true) : w ≠ k := fun e => h (decide_eq_true (by rw [e]))
/-- a new list at x of what stands for the data ds -/
def LD (K : PySem.W.Frag) (R : Hp) (x : V) (ds : List PyData) : Prop := ∃ (a : Addr) (vs : List V), x = .ref a ∧ R a = some (.lst vs) ∧ DpAll K R vs ds
theorem LD.same {K : PySem.W.Frag} {R R' : Hp} {x : V} {ds : List PyData} (h : LD K R x ds) (s : Same R R') : LD K R' x ds := by
  obtain ⟨a, vs, h1, h2, h3⟩ := h
  exact ⟨a, vs, h1, s _ _ h2, dpAll_same s _ _ h3⟩
section
variable {K : PySem.W.Frag} {p : Addr} {R H : Hp}
/-- a list and another one, joined -/
theorem catL {a b : V} {ds es : List PyData} {Q : VK} (k : Rest p R H) (ha : LD K R a ds) (hb : LD K R b es) (hl : ds.length + es.length ≤ 1000) (hq : ∀ x R' H', Go p R H R' H' → LD K R' x (ds ++ es) → Q x H') : rCat a b H Q := by
  obtain ⟨a, vs, rfl, h2, h3⟩ := ha
  obtain ⟨b, ws, rfl, k2, k3⟩ := hb
  have l1 := dpAll_len h3
  have l2 := dpAll_len k3
  exact ⟨a, b, vs, ws, rfl, rfl, k.1 _ _ h2, k.1 _ _ k2, Nat.le_of_lt (small1000 (by omega)), fun x hx => hq _ _ _ (Go.new k hx) ⟨x, _, rfl, upd_same, dpAll_same (Go.new k hx).same _ _ (dpAll_app h3 k3)⟩⟩
/-- a list once or not at all -/
theorem repL {a : V} {ds : List PyData} {b : Bool} {Q : VK} (k : Rest p R H) (ha : LD K R a ds) (hl : ds.length ≤ 1000) (hq : ∀ x R' H', Go p R H R' H' → LD K R' x (if b then ds else []) → Q x H') : rRep a (.int (if b then 1 else 0)) H Q := by
  obtain ⟨a, vs, rfl, h2, h3⟩ := ha
  have l1 := dpAll_len h3
  cases b with
  | true =>
    refine ⟨a, _, vs, rfl, rfl, k.1 _ _ h2, by decide, by decide, ?_, fun x hx => ?_⟩
    · show vs.length * 1 ≤ sizeLine
      exact Nat.le_of_lt (small1000 (by omega))
    · have e : (List.replicate (if true = true then (1 : Int) else 0).toNat vs).flatten = vs := by
        show vs ++ [] = vs
        rw [List.append_nil]
      rw [e]
      exact hq _ _ _ (Go.new k hx) ⟨x, _, rfl, upd_same, dpAll_same (Go.new k hx).same _ _ h3⟩
  | false =>
    refine ⟨a, _, vs, rfl, rfl, k.1 _ _ h2, by decide, by decide, ?_, fun x hx => ?_⟩
    · show vs.length * 0 ≤ sizeLine
      omega
    · exact hq _ _ _ (Go.new k hx) ⟨x, _, rfl, upd_same, .nil⟩
/-- a list of one tuple, new -/
theorem new1 {u : Addr} {ds : PyData} {l : Addr} (k : Rest p R H) (hu : Dp K R (.ref u) ds) (hl : H l = none) : Go p R H (upd R l (.lst [.ref u])) (upd H l (.lst [.ref u])) ∧ LD K (upd R l (.lst [.ref u])) (.ref l) [ds] :=
  ⟨Go.new k hl, l, _, rfl, upd_same, .cons (dp_same (Go.new (o := .lst [.ref u]) k hl).same _ _ hu) .nil⟩
theorem dpAll_rev : ∀ {vs : List V} {ds : List PyData}, DpAll K R vs ds → DpAll K R vs.reverse ds.reverse
  | _, _, .nil => .nil
  | _, _, .cons h r => by
    rw [List.reverse_cons, List.reverse_cons]
    exact dpAll_app (dpAll_rev r) (.cons h .nil)
theorem revL {vs : List V} {ds : List PyData} {l : Addr} (k : Rest p R H) (hl : H l = none) (h : DpAll K R vs ds) : LD K (upd R l (.lst vs.reverse)) (.ref l) ds.reverse :=
  ⟨l, _, rfl, upd_same, dpAll_same (Go.new (o := .lst vs.reverse) k hl).same _ _ (dpAll_rev h)⟩
theorem four_of {e1 e2 l3 l4 : Addr} {v : V} (f1 : LD K R (.ref e1) []) (f2 : LD K R (.ref e2) []) (f3 : LD K R (.ref l3) [T1 "touch"]) (f4 : LD K R (.ref l4) [T1 "use"]) (hv : v ∈ [V.ref e1, .ref e2, .ref l3, .ref l4]) :
    ∃ ex, LD K R v ex ∧ (ex = [] ∨ ex = [T1 "touch"] ∨ ex = [T1 "use"]) := by
  simp only [List.mem_cons, List.not_mem_nil, or_false] at hv
  rcases hv with rfl | rfl | rfl | rfl
  · exact ⟨_, f1, .inl rfl⟩
  · exact ⟨_, f2, .inl rfl⟩
  · exact ⟨_, f3, .inr (.inl rfl)⟩
  · exact ⟨_, f4, .inr (.inr rfl)⟩
/-- a new object that is kept apart for a while -/
theorem dp_two {u : Bool} {x y : V} {a b : Str} (h1 : Dp K R x (T1 a)) (h2 : Dp K R y (T1 b)) : Dp K R (if u = true then y else x) (T1 (if u = true then b else a)) := by
  cases u with
  | true => exact h2
  | false => exact h1
theorem one_of {u1 u2 : Addr} {v : V} (d1 : Dp K R (.ref u1) (T1 "touch")) (d2 : Dp K R (.ref u2) (T1 "use")) (hv : v ∈ [V.ref u1, .ref u2]) : ∃ w : Str, Dp K R v (T1 w) ∧ w ∈ (["touch", "use"] : List Str) := by
  simp only [List.mem_cons, List.not_mem_nil, or_false] at hv
  rcases hv with rfl | rfl
  · exact ⟨_, d1, by decide⟩
  · exact ⟨_, d2, by decide⟩
theorem cut2_nil {ds : List PyData} (h : ds.length ≤ 2) : cutG ds (some 2) none = [] := by
  match ds, h with
  | [], _ => rfl
  | [_], _ => rfl
  | [_, _], _ => rfl
theorem dp_unit {y : V} (h : Dp K R y (.tuple [])) : ∃ ya : Addr, y = .ref ya ∧ SqT K R ya [] := by
  cases h with
  | tup h1 h2 =>
    cases h2
    exact ⟨_, rfl, h1⟩
theorem dp_head {y : V} {w : Str} {rest : List PyData} (h : Dp K R y (.tuple (.str w :: rest))) : ∃ (ya : Addr) (xs : List V), y = .ref ya ∧ SqT K R ya xs ∧ atI xs 0 = some (.str w) := by
  cases h with
  | tup h1 h2 =>
    cases h2 with
    | cons h3 _ =>
      cases h3
      exact ⟨_, _, rfl, h1, atI_nat (j := 0) rfl⟩
theorem dp_third {y : V} {a b : PyData} {o : List PyData} (h : Dp K R y (.tuple [a, b, .tuple o])) : ∃ (ya oa : Addr) (xs ys : List V), y = .ref ya ∧ SqT K R ya xs ∧ atI xs 2 = some (.ref oa) ∧ SqT K R oa ys ∧ ys.length = o.length := by
  cases h with
  | tup h1 h2 =>
    cases h2 with
    | cons h3 h4 =>
      cases h4 with
      | cons h5 h6 =>
        cases h6 with
        | cons h7 h8 =>
          cases h8
          cases h7 with
          | tup k1 k2 => exact ⟨_, _, _, _, rfl, h1, atI_nat (j := 2) rfl, k1, dpAll_len k2⟩
theorem dp_single {y : V} {d : PyData} (h : Dp K R y (.tuple [d])) : ∃ (ya : Addr) (v : V), y = .ref ya ∧ SqT K R ya [v] := by
  cases h with
  | tup h1 h2 =>
    cases h2 with
    | cons h3 h4 =>
      cases h4
      exact ⟨_, _, rfl, h1⟩
theorem go_hid {li : Addr} {o : HO} (k : Rest p R H) (h : H li = none) : Go p R H R (upd H li o) :=
  ⟨Same.refl _, k.put (k.1.free h) (k.ne h), fun b _ x e => same_upd h b x e, fun _ _ _ h => h⟩
theorem go_put {R0 H0 : Hp} {li : Addr} {o : HO} (g : Go p R0 H0 R H) (h0 : H0 li = none) (hR : R li = none) (hne : li ≠ p) : Go p R0 H0 R (upd H li o) :=
  ⟨g.same, g.rest.put hR hne, fun b hb x e => by
    rw [upd_ne (ne_of_none e h0)]
    exact g.keep b hb x e, g.fresh⟩
theorem go_put2 {R0 H0 : Hp} {li : Addr} (o : HO) (g : Go p R0 H0 R H) (h0 : H0 li = none) (hR : R li = none) (hne : li ≠ p) : Go p R0 H0 R (upd H li o) ∧ upd H li o li = some o := ⟨go_put g h0 hR hne, upd_same⟩
theorem go_new2 {l : Addr} (o : HO) (k : Rest p R H) (h : H l = none) : Go p R H (upd R l o) (upd H l o) := Go.new k h
/-- what was kept apart is let in -/
theorem go_show {R0 H0 : Hp} {li : Addr} {o : HO} (g : Go p R0 H0 R H) (h0 : H0 li = none) (hR : R li = none) (hne : li ≠ p) (hH : H li = some o) : Go p R0 H0 (upd R li o) H := by
  obtain ⟨s0, hRp, d, ns, n, hp, hd, hn⟩ := g.rest
  have e1 : Same R (upd R li o) := same_upd hR
  refine ⟨g.same.trans e1, ⟨fun b x e => ?_, by rw [upd_ne hne.symm]; exact hRp, d, ns, n, hp, e1 _ _ hd, hn⟩, g.keep, fun b x e hr => ?_⟩
  · by_cases hb : b = li
    · subst hb
      rw [upd_same] at e
      rw [hH, e]
    · rw [upd_ne hb] at e
      exact s0 b x e
  · rw [upd_ne (ne_of_none e h0)]
    exact g.fresh b x e hr
theorem closeLast {R0 H0 : Hp} {u l t : Bool} {x3 x6 : V} {bs : List PyData} {Q : VK} (q : ∀ x R' H' c, Go p R0 H0 R' H' → LD K R' x c → IsClosing u l t c → Q x H') (g : Go p R0 H0 R H) (f3 : LD K R x3 bs) (f6 : LD K R x6 [T1 "let"]) (hl : bs.length ≤ 10)
    (hq : ∀ k' : List PyData, (k' = [] ∨ (t = true ∧ k' = [T1 "let"])) → IsClosing u l t (bs ++ k')) (b : Bool) (hb : b = true → t = true) : rRep x6 (.int (if b = true then 1 else 0)) H (fun y H2 => rCat x3 y H2 Q) := by
  refine repL g.rest f6 (by decide) fun x7 Ri Hi gi f7 => catL (g.trans gi).rest (f3.same gi.same) f7 ?_ fun x8 Rj Hj gj f8 => q _ _ _ _ ((g.trans gi).trans gj) f8 (hq _ ?_)
  · have : (if b = true then [T1 "let"] else []).length ≤ 1 := by cases b <;> decide
    omega
  · cases b with
    | true => exact .inr ⟨hb rfl, rfl⟩
    | false => exact .inl rfl
end
end GG

namespace GG
open PySem PySem.Spec PyProof.Rows L2 TL
/-- the names that a law draws from are plain -/
def NamesOk (ns : List Str) : Prop := ∀ n ∈ ns, Sane n ∧ n.length ≤ 100
theorem good_name {ns : List Str} {n : Str} (h : NamesOk ns) (hn : n ∈ ns) (k : Nat) : Good k (.str n) := good_str (by have := (h n hn).2; omega) (h n hn).1 k
theorem good_word (w : Str) (h : okD (.str w) = true) (k : Nat) : Good k (.str w) := ⟨h, Nat.zero_le _⟩
theorem rowOk_good {ns ms : List Str} {t : Bool} (h1 : NamesOk ns) (h2 : NamesOk ms) : ∀ {a u l : Bool} {r : List PyData}, RowOk ns ms t a u l r → ∀ d ∈ r, Good (if a = true then 4 else 2) d := by
  have one : ∀ (a : Bool) (w : Str), okD (.str w) = true → Good (if a = true then 4 else 2) (T1 w) := fun a w hw => Good.mono (n := 2) (good_t (n := 1) (by show 1 ≤ 1000; decide) (fun d hd => by
    rw [List.mem_singleton] at hd
    rw [hd]
    exact good_word w hw 1)) (by cases a <;> decide)
  intro a u l r h
  induction h with
  | nil => intro d hd; cases hd
  | lets _ => intro d hd; rw [List.mem_singleton] at hd; rw [hd]; exact one _ _ (by decide +kernel)
  | plain hw _ ih =>
    intro d hd
    rcases List.mem_cons.mp hd with rfl | hd
    · simp only [List.mem_cons, List.not_mem_nil, or_false] at hw
      rcases hw with rfl | rfl <;> exact one _ _ (by decide +kernel)
    · exact ih d hd
  | @start a u l n r hn _ ih =>
    intro d hd
    rcases List.mem_cons.mp hd with rfl | hd
    · refine Good.mono (n := 2) (good_t (n := 1) (by show 2 ≤ 1000; decide) (fun e he => ?_)) (by cases a <;> decide)
      rw [List.mem_cons, List.mem_singleton] at he
      rcases he with rfl | rfl
      · exact good_word _ (by decide +kernel) 1
      · exact good_name h1 hn 1
    · exact ih d hd
  | enter _ ih => intro d hd; rcases List.mem_cons.mp hd with rfl | hd; exact one _ _ (by decide +kernel); exact ih d hd
  | leave _ ih => intro d hd; rcases List.mem_cons.mp hd with rfl | hd; exact one _ _ (by decide +kernel); exact ih d hd
  | lock _ ih => intro d hd; rcases List.mem_cons.mp hd with rfl | hd; exact one _ _ (by decide +kernel); exact ih d hd
  | unlock _ ih => intro d hd; rcases List.mem_cons.mp hd with rfl | hd; exact one _ _ (by decide +kernel); exact ih d hd
  | ask hm ho h4 _ iho ih =>
    intro d hd
    rcases List.mem_cons.mp hd with rfl | hd
    · refine good_t (n := 3) (by show 3 ≤ 1000; decide) (fun e he => ?_)
      simp only [List.mem_cons, List.not_mem_nil, or_false] at he
      rcases he with rfl | rfl | rfl
      · exact good_word _ (by decide +kernel) 3
      · exact good_name h2 hm 3
      · exact good_t (n := 2) (by omega) iho
    · exact ih d hd
theorem size1_pos (d : PyData) : 1 ≤ size1 d := by
  unfold size1
  split <;> omega
theorem sizeR_len : ∀ r : List PyData, r.length ≤ sizeR r
  | [] => Nat.le_refl _
  | d :: r => by
    have h1 := size1_pos d
    have h2 := sizeR_len r
    show r.length + 1 ≤ size1 d + sizeR r
    omega
/-- the openings of a hand -/
def opens : List (List Str) := [["look", "hold"], ["look", "try"], ["lock", "look", "hold", "unlock"], ["lock", "look", "try", "unlock"], ["lock", "look", "unlock", "hold"], ["lock", "look", "unlock", "try"]]
/-- a hand's row that keeps the rules -/
def HandOk (ns ms : List Str) (ds : List PyData) : Prop := ∃ op b, op ∈ opens ∧ ds = op.map T1 ++ b ∧ RowOk ns ms true true false false b ∧ sizeR b + op.length ≤ 14
/-- a work's row that keeps the rules -/
def WorkOk (ns ms : List Str) (ds : List PyData) : Prop := RowOk ns ms false true false false ds ∧ ds ≠ [] ∧ sizeR ds ≤ 9
section
variable {K : PySem.W.Frag} {p : Addr} {R H : Hp}
theorem dpAll_of_get : ∀ {vs : List V} {ds : List PyData}, vs.length = ds.length → (∀ (i : Nat) (y : V) (d : PyData), vs[i]? = some y → ds[i]? = some d → Dp K R y d) → DpAll K R vs ds
  | [], [], _, _ => .nil
  | v :: vs, d :: ds, hl, h => .cons (h 0 v d rfl rfl) (dpAll_of_get (by simpa using hl) fun i y e h1 h2 => h (i + 1) y e h1 h2)
/-- a comprehension that draws, place by place -/
theorem lc_goI {J : It} {n : Nat} {G : Hp → Prop} {Y : Nat → Hp → V → Hp → Prop} (wk : Walk J n G Y) {D : Addr} (hn : n ≤ 1000) (k : Rest p R H) (hD : H D = none) (hG : ∀ R1 H1, Go p R H R1 H1 → G H1)
    (PP : Nat → Hp → V → Prop) (Pm : ∀ i R1 R2 y, Same R1 R2 → PP i R1 y → PP i R2 y) {g : TG} {tt : TT} {te : TE} {vs : List Nat} {σ : L2.St} {Qd : Hp → Prop}
    (hs : ∀ i x R1 H1 H1', i < n → Go p R H R1 H1 → Y i H1 x H1' → ∀ (C : V → Hp → Prop) (E : Hp → Prop), (∀ R2 H2 y, Go p R1 H1 R2 H2 → PP i R2 y → C y H2) →
      g x (wipe σ vs) H1' fun σ2 H2 => wipe σ2 vs = wipe σ vs ∧ tt σ2 H2 fun b H3 => if b = true then te σ2 H3 C else E H3)
    (hd : ∀ R1 H1 ys, Go p R H R1 H1 → R1 D = some (.lst ys) → ys.length = n → (∀ (i : Nat) (y : V), ys[i]? = some y → PP i R1 y) → Qd H1) :
    ∃ W : Nat → Nat → Hp → Prop, (∃ m, W 0 m (upd H D (.lst []))) ∧ ∀ i m H, W i m H →
      (J.stop i H ∧ Qd H) ∨ (J.go i H ∧ ∃ Nx : Hp → Prop, (∀ H', Nx H' → ∃ m', m' < m ∧ W (i + 1) m' H') ∧ ∀ x H', J.yld i H x H' → g x (wipe σ vs) H' fun σ2 H2 => wipe σ2 vs = wipe σ vs ∧ tt σ2 H2 fun b H3 =>
        if b = true then te σ2 H3 fun y H4 => ∃ acc, H4 D = some (.lst acc) ∧ acc.length < sizeLine ∧ Nx (upd H4 D (.lst (acc ++ [y]))) else Nx H3) := by
  have hne := k.ne hD
  have hRD : R D = none := k.1.free hD
  refine lc_it wk (fun i H' => ∃ R1, Go p R H R1 H' ∧ R1 D = none ∧ ∃ ys : List V, H' D = some (.lst ys) ∧ ys.length = i ∧ ∀ (j : Nat) (y : V), ys[j]? = some y → PP j R1 y) ?_ ?_ ?_ ?_
  · exact ⟨R, go_hid k hD, hRD, [], upd_same, rfl, fun j y h => by simp at h⟩
  · rintro i H' _ ⟨R1, g1, _⟩
    exact hG R1 H' g1
  · rintro i x H1 H1' hi ⟨R1, g1, hR1, ys, hy, hl, hP⟩ hY
    refine hs i x R1 H1 H1' hi g1 hY _ _ fun R2 H2 y g2 hp => ⟨ys, g2.keep D hne _ hy, small1000 (by omega), R2, go_put (g1.trans g2) hD (g2.fresh D _ hy hR1) hne, g2.fresh D _ hy hR1, ys ++ [y], upd_same, ?_, ?_⟩
    · rw [List.length_append, List.length_singleton, hl]
    · intro j u hu
      by_cases hj : j < ys.length
      · rw [List.getElem?_append_left hj] at hu
        exact Pm j R1 R2 u g2.same (hP j u hu)
      · rw [List.getElem?_append_right (by omega)] at hu
        have hj2 := (List.getElem?_eq_some_iff.mp hu).1
        rw [List.length_singleton] at hj2
        have ej : j - ys.length = 0 := by omega
        rw [ej] at hu
        have eu : y = u := Option.some.inj hu
        have ei : j = i := by omega
        rw [← eu, ei]
        exact hp
  · rintro H1 ⟨R1, g1, hR1, ys, hy, hl, hP⟩
    exact hd _ H1 ys (go_show g1 hD hR1 hne hy) upd_same hl fun j y h => Pm j _ _ y (same_upd hR1) (hP j y h)
/-- a list of texts, new -/
theorem six_of {l1 l2 l3 l4 l5 l6 : Addr} {x : V} (h1 : R l1 = some (.lst [.str "look", .str "hold"])) (h2 : R l2 = some (.lst [.str "look", .str "try"])) (h3 : R l3 = some (.lst [.str "lock", .str "look", .str "hold", .str "unlock"]))
    (h4 : R l4 = some (.lst [.str "lock", .str "look", .str "try", .str "unlock"])) (h5 : R l5 = some (.lst [.str "lock", .str "look", .str "unlock", .str "hold"])) (h6 : R l6 = some (.lst [.str "lock", .str "look", .str "unlock", .str "try"]))
    (hx : x ∈ [V.ref l1, .ref l2, .ref l3, .ref l4] ++ [V.ref l5, .ref l6]) : ∃ (a : Addr) (op : List Str), x = .ref a ∧ R a = some (.lst (op.map V.str)) ∧ op ∈ opens := by
  simp only [List.cons_append, List.nil_append, List.mem_cons, List.not_mem_nil, or_false] at hx
  rcases hx with rfl | rfl | rfl | rfl | rfl | rfl
  · exact ⟨_, ["look", "hold"], rfl, h1, by decide⟩
  · exact ⟨_, ["look", "try"], rfl, h2, by decide⟩
  · exact ⟨_, ["lock", "look", "hold", "unlock"], rfl, h3, by decide⟩
  · exact ⟨_, ["lock", "look", "try", "unlock"], rfl, h4, by decide⟩
  · exact ⟨_, ["lock", "look", "unlock", "hold"], rfl, h5, by decide⟩
  · exact ⟨_, ["lock", "look", "unlock", "try"], rfl, h6, by decide⟩
theorem two_of {l3 l4 : Addr} {v : V} (f3 : LD K R (.ref l3) [T1 "touch"]) (f4 : LD K R (.ref l4) [T1 "use"]) (hv : v ∈ [V.ref l3, .ref l4]) : ∃ w : Str, LD K R v [T1 w] ∧ w ∈ (["touch", "use"] : List Str) := by
  simp only [List.mem_cons, List.not_mem_nil, or_false] at hv
  rcases hv with rfl | rfl
  · exact ⟨_, f3, by decide⟩
  · exact ⟨_, f4, by decide⟩
theorem opens_len {op : List Str} (h : op ∈ opens) : 2 ≤ op.length ∧ op.length ≤ 4 := by
  unfold opens at h
  simp only [List.mem_cons, List.not_mem_nil, or_false] at h
  rcases h with rfl | rfl | rfl | rfl | rfl | rfl <;> decide
end
end GG

/-! The puller's steps that the laws draw, as data. -/
namespace GG
open PySem PySem.Spec PyProof.Rows L2 TL
abbrev T2 (w n : Str) : PyData := .tuple [.str w, .str n]
/-- a step that the laws draw, of those that are no lock -/
def StepW (ns ms : List Str) (d : PyData) : Prop := (∃ w ∈ (["out", "wait", "empty", "down", "let"] : List Str), d = T1 w) ∨ (∃ m ∈ ms, d = T2 "mark" m) ∨ ∃ n ∈ ns, ∃ w ∈ (["bar", "forget", "idle"] : List Str), d = T2 w n
/-- a step that may stand there more than once -/
def RepW (d : PyData) : Prop := (∃ w ∈ (["wait", "empty"] : List Str), d = T1 w) ∨ ∃ n : Str, ∃ w ∈ (["bar", "forget", "idle"] : List Str), d = T2 w n
def StepsOk (ns ms : List Str) (ds : List PyData) : Prop := (∀ d ∈ ds, StepW ns ms d) ∧ ds.Pairwise fun a b => a = b → RepW a
/-- steps with lock and unlock put in -/
def LocksOf (ds es : List PyData) : Prop := es = ds ∨ ∃ a b c e k : List PyData, ds = (a ++ b) ++ c ∧ ((e = [] ∧ k = []) ∨ (e = [T1 "unlock"] ∧ (k = [] ∨ k = [T1 "lock"] ∨ k = [T1 "lock", T1 "unlock"]))) ∧ es = ((((a ++ [T1 "lock"]) ++ b) ++ e) ++ c) ++ k ∧ es.length ≤ 9
/-- a puller's row that the laws draw -/
def PullOk (ns ms : List Str) (es : List PyData) : Prop := ∃ ds, StepsOk ns ms ds ∧ ds.length ≤ 7 ∧ LocksOf ds es
theorem sIx_int (n d : Nat) {r : Int} (h0 : 0 ≤ r) (h1 : r ≤ n) : HT.sIx n d (some r) = r.toNat := by
  show (if r < 0 then (r + (n : Int)).toNat else min r.toNat n) = r.toNat
  rw [if_neg (by omega), Nat.min_eq_left (by omega)]
theorem cutG_lo {α : Type} (ds : List α) {r : Int} (h0 : 0 ≤ r) (h1 : r ≤ ds.length) : cutG ds none (some r) = ds.take r.toNat := by
  unfold cutG
  rw [sIx_int _ _ h0 h1, HT.sIx_none, List.drop_zero, Nat.sub_zero]
theorem cutG_hi {α : Type} (ds : List α) {r : Int} (h0 : 0 ≤ r) (h1 : r ≤ ds.length) : cutG ds (some r) none = ds.drop r.toNat := by
  unfold cutG
  rw [sIx_int _ _ h0 h1, HT.sIx_none, List.take_of_length_le (by rw [List.length_drop]; exact Nat.le_refl _)]
theorem cutG_mid {α : Type} (ds : List α) {r t : Int} (h0 : 0 ≤ r) (h1 : r ≤ t) (h2 : t ≤ ds.length) : cutG ds (some r) (some t) = (ds.drop r.toNat).take (t.toNat - r.toNat) := by
  unfold cutG
  rw [sIx_int _ _ h0 (by omega), sIx_int _ _ (by omega) h2]
theorem three_cuts {α : Type} (ds : List α) {r t : Int} (h0 : 0 ≤ r) (h1 : r ≤ t) (h2 : t ≤ ds.length) : ds = (cutG ds none (some r) ++ cutG ds (some r) (some t)) ++ cutG ds (some t) none := by
  rw [cutG_lo ds h0 (by omega), cutG_mid ds h0 h1 h2, cutG_hi ds (by omega) h2]
  have e : ds.take r.toNat ++ (ds.drop r.toNat).take (t.toNat - r.toNat) = ds.take t.toNat := by
    rw [← List.take_add]
    congr 1
    omega
  rw [e, List.take_append_drop]
section
variable {K : PySem.W.Frag} {p : Addr} {R H : Hp}
/-- a cut of a list -/
theorem sliceL {x : V} {ds : List PyData} {lo hi : Option Int} {Q : VK} (k : Rest p R H) (hx : LD K R x ds) (hq : ∀ y R' H', Go p R H R' H' → LD K R' y (cutG ds lo hi) → Q y H') : rSlL K x lo hi H Q := by
  obtain ⟨a, vs, rfl, h1, h2⟩ := hx
  exact ⟨a, vs, rfl, .inl (.inl (k.1 _ _ h1)), fun y hy => hq _ _ _ (Go.new k hy) ⟨y, _, rfl, upd_same, dpAll_same (Go.new k hy).same _ _ (dpAll_cut h2 lo hi)⟩⟩
theorem sliceLo {x : V} {ds : List PyData} {lo : Option Int} {σ : L2.St} {Q : VK} (k : Rest p R H) (hx : LD K R x ds) (hq : ∀ y R' H', Go p R H R' H' → LD K R' y (cutG ds lo none) → Q y H') : tNoPart σ H (fun u H3 => rSlL K x lo u H3 Q) := sliceL (hi := none) k hx hq
end
end GG

namespace GG
open PySem PySem.Spec PyProof.Rows L2 TL
theorem eqv_strs : ∀ xs ys : List Str, PyData.eqvAll (xs.map PyData.str) (ys.map PyData.str) = true ↔ xs = ys
  | [], [] => ⟨fun _ => rfl, fun _ => rfl⟩
  | [], y :: ys => iff_of_false (by intro h; cases h) (by intro h; cases h)
  | x :: xs, [] => iff_of_false (by intro h; cases h) (by intro h; cases h)
  | x :: xs, y :: ys => by
    show ((x == y) && PyData.eqvAll (xs.map PyData.str) (ys.map PyData.str)) = true ↔ _
    rw [Bool.and_eq_true_iff, eqv_strs xs ys, List.cons.injEq, beq_iff_eq]
theorem StepW.words {ns ms : List Str} {d : PyData} (h : StepW ns ms d) : ∃ (w : Str) (r : List Str), d = .tuple ((w :: r).map PyData.str) := by
  rcases h with ⟨w, _, rfl⟩ | ⟨m, _, rfl⟩ | ⟨n, _, w, _, rfl⟩
  · exact ⟨w, [], rfl⟩
  · exact ⟨"mark", [m], rfl⟩
  · exact ⟨w, [n], rfl⟩
theorem eqv_step {ns ms : List Str} {d e : PyData} (h : StepW ns ms d) (h' : StepW ns ms e) : PyData.eqv d e = true ↔ d = e := by
  obtain ⟨w, r, rfl⟩ := h.words
  obtain ⟨v, q, rfl⟩ := h'.words
  refine (eqv_strs (w :: r) (v :: q)).trans ⟨fun e => by rw [e], fun e => ?_⟩
  injection e with e
  exact List.map_inj_right (fun a b h => by injection h) |>.mp e
theorem step_good {ns ms : List Str} {d : PyData} (h1 : NamesOk ns) (h2 : NamesOk ms) (h : StepW ns ms d) : Good 1 d := by
  rcases h with ⟨w, hw, rfl⟩ | ⟨m, hm, rfl⟩ | ⟨n, hn, w, hw, rfl⟩
  · refine good_t (n := 0) (by show 1 ≤ 1000; decide) fun d hd => ?_
    rw [List.mem_singleton] at hd
    subst hd
    simp only [List.mem_cons, List.not_mem_nil, or_false] at hw
    rcases hw with rfl | rfl | rfl | rfl | rfl <;> exact good_word _ (by decide +kernel) 0
  · refine good_t (n := 0) (by show 2 ≤ 1000; decide) fun d hd => ?_
    rw [List.mem_cons, List.mem_singleton] at hd
    rcases hd with rfl | rfl
    · exact good_word _ (by decide +kernel) 0
    · exact good_name h2 hm 0
  · refine good_t (n := 0) (by show 2 ≤ 1000; decide) fun d hd => ?_
    rw [List.mem_cons, List.mem_singleton] at hd
    rcases hd with rfl | rfl
    · simp only [List.mem_cons, List.not_mem_nil, or_false] at hw
      rcases hw with rfl | rfl | rfl <;> exact good_word _ (by decide +kernel) 0
    · exact good_name h1 hn 0
theorem rep_of {ns ms : List Str} {w : Str} {r : List PyData} (h : StepW ns ms (.tuple (.str w :: r))) (hw : inV (.str w) [.str "wait", .str "empty", .str "bar", .str "forget", .str "idle"] = true) : RepW (.tuple (.str w :: r)) := by
  rcases h with ⟨v, hv, e⟩ | ⟨m, hm, e⟩ | ⟨n, hn, v, hv, e⟩
  · injection e with e
    injection e with e1 e2
    injection e1 with e1
    subst e1 e2
    simp only [List.mem_cons, List.not_mem_nil, or_false] at hv
    rcases hv with rfl | rfl | rfl | rfl | rfl
    · exact absurd hw (by decide +kernel)
    · exact .inl ⟨_, by decide, rfl⟩
    · exact .inl ⟨_, by decide, rfl⟩
    · exact absurd hw (by decide +kernel)
    · exact absurd hw (by decide +kernel)
  · injection e with e
    injection e with e1 e2
    injection e1 with e1
    subst e1
    exact absurd hw (by decide +kernel)
  · injection e with e
    injection e with e1 e2
    injection e1 with e1
    subst e1 e2
    exact .inr ⟨n, w, hv, rfl⟩
theorem rel_symm {a b : PyData} (h : a = b → RepW a) : b = a → RepW b := fun e => by
  subst e
  exact h rfl
theorem StepsOk.sub {ns ms : List Str} {ds es : List PyData} (h : StepsOk ns ms ds) (s : es.Sublist ds) : StepsOk ns ms es := ⟨fun d hd => h.1 d (s.subset hd), h.2.sublist s⟩
theorem StepsOk.ins {ns ms : List Str} {A B k ds : List PyData} (h : StepsOk ns ms ds) (e : A ++ B = ds) (hk : ∀ d ∈ k, StepW ns ms d) (hp : k.Pairwise fun a b => a = b → RepW a) (hx : ∀ a ∈ k, ∀ b ∈ ds, a = b → RepW a) : StepsOk ns ms ((A ++ k) ++ B) := by
  have pm : List.Perm ((A ++ k) ++ B) (k ++ ds) := by
    rw [← e, List.append_assoc]
    exact List.perm_append_comm_assoc _ _ _
  refine ⟨fun d hd => ?_, (pm.pairwise_iff (fun h => rel_symm h)).mpr (List.pairwise_append.mpr ⟨hp, h.2, hx⟩)⟩
  have hd := pm.subset hd
  rcases List.mem_append.mp hd with hd | hd
  · exact hk d hd
  · exact h.1 d hd
theorem del_sub (ds : List PyData) {r : Int} (h0 : 0 ≤ r) (h1 : r < ds.length) : (cutG ds none (some r) ++ cutG ds (some (r + 1)) none).Sublist ds ∧ (cutG ds none (some r) ++ cutG ds (some (r + 1)) none).length + 1 = ds.length := by
  rw [cutG_lo ds h0 (by omega), cutG_hi ds (by omega) (by omega)]
  constructor
  · refine (List.Sublist.append (List.Sublist.refl _) (List.drop_sublist_drop_left ds (i := r.toNat) (by omega))).trans ?_
    rw [List.take_append_drop]
    exact List.Sublist.refl _
  · rw [List.length_append, List.length_take, List.length_drop]
    omega
theorem cut_two {α : Type} (ds : List α) {r : Int} (h0 : 0 ≤ r) : cutG ds none (some r) ++ cutG ds (some r) none = ds := by
  have e : ∀ d, HT.sIx ds.length d (some r) = min r.toNat ds.length := fun d => by
    show (if r < 0 then (r + (ds.length : Int)).toNat else min r.toNat ds.length) = _
    rw [if_neg (by omega)]
  unfold cutG
  rw [e, e, HT.sIx_none, HT.sIx_none, List.drop_zero, Nat.sub_zero, List.take_of_length_le (l := ds.drop _) (by rw [List.length_drop]; exact Nat.le_refl _), List.take_append_drop]
/-- the steps that the law begins with -/
def ini (ns ms : List Str) (b : Bool) : List PyData := (((((([T1 "out"] ++ ms.map (T2 "mark")) ++ ns.map (T2 "bar")) ++ ns.map (T2 "forget")) ++ [T1 "wait"]) ++ ns.map (T2 "idle")) ++ (if b = true then [T1 "empty"] else [])) ++ [T1 "down", T1 "let"]
theorem ini_len (ns ms : List Str) (b : Bool) : 4 ≤ (ini ns ms b).length ∧ (ini ns ms b).length ≤ ms.length + 3 * ns.length + 5 := by
  unfold ini
  cases b <;> simp only [List.length_append, List.length_map, List.length_cons, List.length_nil, if_true, Bool.false_eq_true, if_false] <;> omega
theorem SOk.app {ns ms : List Str} {A B : List PyData} (h : StepsOk ns ms A) (k : StepsOk ns ms B) (hx : ∀ a ∈ A, ∀ b ∈ B, a = b → RepW a) : StepsOk ns ms (A ++ B) :=
  ⟨fun d hd => (List.mem_append.mp hd).elim (h.1 d) (k.1 d), List.pairwise_append.mpr ⟨h.2, k.2, hx⟩⟩
theorem SOk.rep {ns ms : List Str} {A B : List PyData} (h : StepsOk ns ms A) (k : ∀ d ∈ B, StepW ns ms d ∧ RepW d) : StepsOk ns ms (A ++ B) :=
  SOk.app h ⟨fun d hd => (k d hd).1, List.pairwise_of_forall_mem_list fun a ha b _ _ => (k a ha).2⟩ fun a _ b hb e => by rw [e]; exact (k b hb).2
theorem rep_names {ns ms : List Str} {w : Str} (hw : w ∈ (["bar", "forget", "idle"] : List Str)) : ∀ d ∈ ns.map (T2 w), StepW ns ms d ∧ RepW d := fun d hd => by
  obtain ⟨n, hn, rfl⟩ := List.mem_map.mp hd
  exact ⟨.inr (.inr ⟨n, hn, w, hw, rfl⟩), .inr ⟨n, w, hw, rfl⟩⟩
theorem ini_ok {ns ms : List Str} {b : Bool} (hm : ms.Nodup) : StepsOk ns ms (ini ns ms b) := by
  have h1 : StepsOk ns ms ([T1 "out"] ++ ms.map (T2 "mark")) := by
    refine SOk.app ⟨fun d hd => ?_, List.pairwise_singleton _ _⟩ ⟨fun d hd => ?_, List.pairwise_map.mpr (hm.imp fun h e => absurd (by injection e with e; injection e with _ e; injection e with e; injection e) h)⟩ fun a ha b hb e => ?_
    · rw [List.mem_singleton.mp hd]
      exact .inl ⟨"out", by decide, rfl⟩
    · obtain ⟨m, hm, rfl⟩ := List.mem_map.mp hd
      exact .inr (.inl ⟨m, hm, rfl⟩)
    · obtain ⟨m, hm, rfl⟩ := List.mem_map.mp hb
      rw [List.mem_singleton.mp ha] at e
      injection e with e
      injection e with _ e
      cases e
  have one : ∀ w ∈ (["wait", "empty"] : List Str), StepW ns ms (T1 w) ∧ RepW (T1 w) := fun w hw => by
    refine ⟨.inl ⟨w, ?_, rfl⟩, .inl ⟨w, hw, rfl⟩⟩
    simp only [List.mem_cons, List.not_mem_nil, or_false] at hw
    rcases hw with rfl | rfl <;> decide
  have h6 : StepsOk ns ms (((((([T1 "out"] ++ ms.map (T2 "mark")) ++ ns.map (T2 "bar")) ++ ns.map (T2 "forget")) ++ [T1 "wait"]) ++ ns.map (T2 "idle")) ++ (if b = true then [T1 "empty"] else [])) := by
    refine SOk.rep (SOk.rep (SOk.rep (SOk.rep (SOk.rep h1 (rep_names (by decide))) (rep_names (by decide))) fun d hd => ?_) (rep_names (by decide))) fun d hd => ?_
    · rw [List.mem_singleton.mp hd]
      exact one _ (by decide)
    · cases b with
      | true =>
        rw [if_pos rfl] at hd
        rw [List.mem_singleton.mp hd]
        exact one _ (by decide)
      | false => cases hd
  refine SOk.app h6 ⟨fun d hd => ?_, ?_⟩ fun a ha b hb e => ?_
  · rw [List.mem_cons, List.mem_singleton] at hd
    rcases hd with rfl | rfl
    · exact .inl ⟨"down", by decide, rfl⟩
    · exact .inl ⟨"let", by decide, rfl⟩
  · refine List.pairwise_pair.mpr fun e => ?_
    injection e with e
    injection e with e _
    injection e with e
    exact absurd e (by decide)
  · have hne : ∀ w ∈ (["down", "let"] : List Str), ∀ d ∈ ((((([T1 "out"] ++ ms.map (T2 "mark")) ++ ns.map (T2 "bar")) ++ ns.map (T2 "forget")) ++ [T1 "wait"]) ++ ns.map (T2 "idle")), d ≠ T1 w := by
      intro w hw d hd e
      subst e
      simp only [List.mem_append, List.mem_singleton, List.mem_map] at hd
      rcases hd with ((((h | ⟨_, _, h⟩) | ⟨_, _, h⟩) | ⟨_, _, h⟩) | h) | ⟨_, _, h⟩ <;> injection h with h <;> injection h with h h'
      · injection h with h
        subst h
        revert hw
        decide
      · cases h'
      · cases h'
      · cases h'
      · injection h with h
        subst h
        revert hw
        decide
      · cases h'
    subst e
    rcases List.mem_append.mp ha with ha | ha
    · rw [List.mem_cons, List.mem_singleton] at hb
      rcases hb with rfl | rfl
      · exact absurd rfl (hne "down" (by decide) _ ha)
      · exact absurd rfl (hne "let" (by decide) _ ha)
    · revert ha
      split
      · intro ha
        rw [List.mem_singleton.mp ha]
        exact .inl ⟨"empty", by decide, rfl⟩
      · intro ha
        cases ha
section
variable {K : PySem.W.Frag} {p : Addr} {R H : Hp}
theorem dpAll_at {vs : List V} {ds : List PyData} {i : Nat} {v : V} {d : PyData} (h : DpAll K R vs ds) (h1 : vs[i]? = some v) (h2 : ds[i]? = some d) : Dp K R v d := by
  obtain ⟨e, he, hd⟩ := dpAll_get h h1
  rw [h2] at he
  rw [Option.some.inj he]
  exact hd
theorem dpAll_mem {vs : List V} {ds : List PyData} {v : V} (h : DpAll K R vs ds) (h1 : v ∈ vs) : ∃ d, d ∈ ds ∧ Dp K R v d := by
  obtain ⟨i, hi⟩ := List.getElem?_of_mem h1
  obtain ⟨e, he, hd⟩ := dpAll_get h hi
  exact ⟨e, List.mem_of_getElem? he, hd⟩
theorem new1v {u : V} {ds : PyData} {l : Addr} (k : Rest p R H) (hu : Dp K R u ds) (hl : H l = none) : Go p R H (upd R l (.lst [u])) (upd H l (.lst [u])) ∧ LD K (upd R l (.lst [u])) (.ref l) [ds] :=
  ⟨Go.new k hl, l, _, rfl, upd_same, .cons (dp_same (Go.new (o := .lst [u]) k hl).same _ _ hu) .nil⟩
theorem cut_len1 {α : Type} (ds : List α) (b : Bool) : (cutG ds none (some (if b = true then 1 else 0))).length ≤ 1 := by
  have e : HT.sIx ds.length ds.length (some (if b = true then 1 else 0)) ≤ 1 := by
    cases b
    · show min 0 ds.length ≤ 1
      omega
    · show min 1 ds.length ≤ 1
      omega
  unfold cutG
  rw [List.length_take]
  omega
/-- the word that a step begins with -/
def headW : PyData → Str
  | .tuple (.str w :: _) => w
  | _ => ""
/-- a comprehension that keeps some of a list's data -/
theorem lc_goF {J : It} {n : Nat} {G : Hp → Prop} {Y : Nat → Hp → V → Hp → Prop} (wk : Walk J n G Y) {D : Addr} (hn : n ≤ 1000) (k : Rest p R H) (hD : H D = none) (hG : ∀ R1 H1, Go p R H R1 H1 → G H1)
    (ds : List PyData) (hdn : ds.length = n) (f : PyData → Bool) {g : TG} {tt : TT} {te : TE} {vs : List Nat} {σ : L2.St} {Qd : Hp → Prop}
    (hs : ∀ i x R1 H1 H1' d, ds[i]? = some d → Go p R H R1 H1 → Y i H1 x H1' → ∀ (C : V → Hp → Prop) (E : Hp → Prop), (∀ R2 H2 y, f d = true → Go p R1 H1 R2 H2 → Dp K R2 y d → C y H2) → (∀ R2 H2, f d = false → Go p R1 H1 R2 H2 → E H2) →
      g x (wipe σ vs) H1' fun σ2 H2 => wipe σ2 vs = wipe σ vs ∧ tt σ2 H2 fun b H3 => if b = true then te σ2 H3 C else E H3)
    (hd : ∀ R1 H1, Go p R H R1 H1 → LD K R1 (.ref D) (ds.filter f) → Qd H1) :
    ∃ W : Nat → Nat → Hp → Prop, (∃ m, W 0 m (upd H D (.lst []))) ∧ ∀ i m H, W i m H →
      (J.stop i H ∧ Qd H) ∨ (J.go i H ∧ ∃ Nx : Hp → Prop, (∀ H', Nx H' → ∃ m', m' < m ∧ W (i + 1) m' H') ∧ ∀ x H', J.yld i H x H' → g x (wipe σ vs) H' fun σ2 H2 => wipe σ2 vs = wipe σ vs ∧ tt σ2 H2 fun b H3 =>
        if b = true then te σ2 H3 fun y H4 => ∃ acc, H4 D = some (.lst acc) ∧ acc.length < sizeLine ∧ Nx (upd H4 D (.lst (acc ++ [y]))) else Nx H3) := by
  have hne := k.ne hD
  have hRD : R D = none := k.1.free hD
  refine lc_it wk (fun i H' => ∃ R1, Go p R H R1 H' ∧ R1 D = none ∧ ∃ ys : List V, H' D = some (.lst ys) ∧ DpAll K R1 ys ((ds.take i).filter f)) ?_ ?_ ?_ ?_
  · exact ⟨R, go_hid k hD, hRD, [], upd_same, .nil⟩
  · rintro i H' _ ⟨R1, g1, _⟩
    exact hG R1 H' g1
  · rintro i x H1 H1' hi ⟨R1, g1, hR1, ys, hy, hP⟩ hY
    have hlt : i < ds.length := by omega
    have hdi : ds[i]? = some ds[i] := List.getElem?_eq_getElem hlt
    have hl : ys.length ≤ 1000 := by
      have e1 := dpAll_len hP
      have e2 := List.length_filter_le f (ds.take i)
      rw [List.length_take] at e2
      omega
    refine hs i x R1 H1 H1' _ hdi g1 hY _ _ (fun R2 H2 y hf g2 hp => ⟨ys, g2.keep D hne _ hy, small1000 (by omega), R2, go_put (g1.trans g2) hD (g2.fresh D _ hy hR1) hne, g2.fresh D _ hy hR1, ys ++ [y], upd_same, ?_⟩) (fun R2 H2 hf g2 => ⟨R2, g1.trans g2, g2.fresh D _ hy hR1, ys, g2.keep D hne _ hy, ?_⟩)
    · rw [filt_snoc hdi, if_pos hf]
      exact dpAll_app (dpAll_same g2.same _ _ hP) (.cons hp .nil)
    · rw [filt_snoc hdi, hf, if_neg Bool.false_ne_true, List.append_nil]
      exact dpAll_same g2.same _ _ hP
  · rintro H1 ⟨R1, g1, hR1, ys, hy, hP⟩
    refine hd _ H1 (go_show g1 hD hR1 hne hy) ⟨D, ys, rfl, upd_same, ?_⟩
    rw [List.take_of_length_le (by omega)] at hP
    exact dpAll_same (same_upd hR1) _ _ hP
end
end GG

/-! Objects of a program's own classes: made with a star, methods whose exceptions are wished for at the caller's slots, static methods, len, places in tuples of data, counts of texts, repr of what is flat. -/
namespace OO
open PySem PySem.Spec PyProof.Rows L2
theorem pat {CX : CXT} {X : Cx} {E : XK} (h : Passes CX X E) : ∀ σ : L2.St, PassesAt CX X σ ((fun _ => E) σ) := fun σ pins H s e s' I c => h pins σ H s e s' I c
section
variable {X : Cx} {CX : CXT} {k : Nat} {f C p g : Addr} {mc : Value} {sp : Sp} {E : L2.St → XK} {x m : Str} {e o : Expr} {es : List Expr} {te ta : TE} {t : TA} {q sp_ pos apos : Pos} {pl : Sem Bool} {pins : List (Addr × Obj)} {σ : L2.St} {H : Hp} {s : Shared}
theorem run_fnRS {Q : VK} {us : List Value} {vs : List V} (F : FnR X.prog X.w X.K X.mg X.base CX k f sp) (hr : Room k X.A) (hx : PassesAt CX X σ (E σ)) (I : Inv X pins σ H s) (r : Vals vs us) (h : sp vs H Q (E σ)) :
    codeAny (model X.prog X.w) X.A (.call (.ref f) ⟨us, []⟩) (fun r s' => match r with | .ok (.ret v) => EP X pins σ Q v s' | .ok _ => False | .error e => X.xe e s') s := by
  refine codeAny_mono (F X.A X.stack s H us vs Q (E σ) hr I.env0 r h) fun r s' hq => ?_
  cases r with
  | error e => exact hx pins H s e s' I hq
  | ok fl =>
    cases fl with
    | ret u => exact I.after hq
    | next => exact False.elim hq
    | brk => exact False.elim hq
    | cont => exact False.elim hq
/-- f(e, ..) by a positional promise -/
def tCallRS (sp : Sp) (E : L2.St → XK) (t : TA) : TE := fun σ H Q => t σ H fun vs H1 => sp vs H1 Q (E σ)
theorem pe_callRS (F : FnR X.prog X.w X.K X.mg X.base CX k f sp) (hr : Room k X.A) (hg : Gl X x) (hm : X.mg x = some (.ref f)) (hk : PySem.W.keepIn X.K (.ref f) = true) (hx : ∀ σ, PassesAt CX X σ (E σ))
    (ha : PA X (e :: es) t) (hdb : (x == ("__debug__" : Str)) = false := by decide) (he : starEach (e :: es) X.env = (false, eval e X.env) :: starEach es X.env := by rfl) (hpl : (backTo pos (starEach es X.env)).any (·.1) = false := by rfl) :
    PE X (.Call (.Name x q) (e :: es) [] pos) (tCallRS sp E t) := by
  refine ⟨fun pins s σ H Q I h => ?_⟩
  refine wpAny_Call_Name_kw (ld_glob I hg hm ?_ hdb)
  refine PySem.W.callWith_K (h₀ := X.base) I.ok.mod.kin hk (thn (ha.run pos pins s σ H _ I h) fun us s1 ⟨vs, H1, I1, r, q⟩ => ⟨I1.kIn, ?_⟩) he hpl
  exact wpAny_call (run_fnRS F hr (hx σ) I1 r q)
/-- o.m(e, ..) -/
def tMethRS (C : Addr) (m : Str) (sp : Sp) (E : L2.St → XK) (ta : TE) (t : TA) : TE := fun σ H Q => ta σ H fun x H1 => ∃ a dx fs, x = .ref a ∧ H1 a = some (.ins C dx fs) ∧ fs.lookup m = none ∧ t σ H1 fun vs H2 => sp (x :: vs) H2 Q (E σ)
theorem pe_methRS (he : PE X o ta) (c : Cls X.K C) (hm : Meth X.K C m f) (F : FnR X.prog X.w X.K X.mg X.base CX k f sp) (hr : Room k X.A) (hx : ∀ σ, PassesAt CX X σ (E σ)) (ha : PA X (e :: es) t)
    (hst : starEach (e :: es) X.env = (false, eval e X.env) :: starEach es X.env := by rfl) (hpl : (backTo pos (starEach es X.env)).any (·.1) = false := by rfl)
    (ht : eval (.Call (.Attribute o m apos) (e :: es) [] pos) X.env = (do
      let ov ← eval o X.env
      standAt apos.atName
      let (f, first) ← holding [ov] (getMethod ov m pl)
      callWith pos f first (backTo pos (starEach (e :: es) X.env)) (backToKw pos (keywordEach [] X.env))) := by rfl) :
    PE X (.Call (.Attribute o m apos) (e :: es) [] pos) (tMethRS C m sp E ta t) := by
  refine ⟨fun pins s σ H Q I h => ?_⟩
  refine PySem.W.methodCall_KW (pl := pl) (thn (he.run pins s σ H _ I h) fun u s1 ⟨x, H1, I1, rx, a, dx, fs, ex, ea, l, q⟩ => ?_) ht
  subst ex
  obtain rfl : u = Value.ref a := rx
  refine getmeth_ok I1 ea c hm l ?_
  refine PySem.W.callWith_K (first := [.ref a]) (h₀ := X.base) I.ok.mod.kin hm.kp (thn (ha.run pos pins s1 σ H1 _ I1 q) fun us s2 ⟨vs, H2, I2, r, q2⟩ => ⟨I2.kIn, ?_⟩) hst hpl
  exact wpAny_call (run_fnRS (us := .ref a :: us) (vs := .ref a :: vs) F hr (hx σ) I2 (.cons rfl r) q2)
/-- C.m is a static method: its record at p, its def at g -/
structure SMet (K : PySem.W.Frag) (C : Addr) (mc : Value) (m : Str) (p g : Addr) : Prop where
  at_ : PySem.W.findCls K (.ref C) mc m = some (.get (.builtin "staticmethod.__get__") (.ref p) .none (.ref C))
  rc : ∃ rest, PySem.W.recIn K p "staticmethod" = some (.ref g :: rest)
  kp : PySem.W.keepIn K (.ref g) = true
theorem getsm_ok {A : Around} {E : Value → Shared → Prop} {b : Bool} {Q : Value → Shared → Prop} (I : Inv X pins σ H s) (r : ClX.CRead X.K C mc) (k : SMet X.K C mc m p g) (h : ∀ s', Inv X pins σ H s' → Q (.ref g) s') : wpAny (model X.prog X.w) A (getAttr (.ref C) m b) Q E s := by
  obtain ⟨rest, hp⟩ := k.rc
  refine PySem.W.cls_bind I.kIn r.rd k.at_ ?_
  exact wpAny_call (PySem.W.sm_get (s := { s with toks := s.toks + 1 }) I.kIn hp (PySem.W.handed_on rfl (h _ (I.tok _))))
/-- C.m(e, ..) -/
def tSMethS (C : Addr) (sp : Sp) (E : L2.St → XK) (ta : TE) (t : TA) : TE := fun σ H Q => ta σ H fun x H1 => x = .ref C ∧ t σ H1 fun vs H2 => sp vs H2 Q (E σ)
theorem pe_smethS (he : PE X o ta) (r : ClX.CRead X.K C mc) (c : SMet X.K C mc m p g) (F : FnR X.prog X.w X.K X.mg X.base CX k g sp) (hr : Room k X.A) (hx : ∀ σ, PassesAt CX X σ (E σ)) (ha : PA X (e :: es) t)
    (hst : starEach (e :: es) X.env = (false, eval e X.env) :: starEach es X.env := by rfl) (hpl : (backTo pos (starEach es X.env)).any (·.1) = false := by rfl)
    (ht : eval (.Call (.Attribute o m apos) (e :: es) [] pos) X.env = (do
      let ov ← eval o X.env
      standAt apos.atName
      let (f, first) ← holding [ov] (getMethod ov m pl)
      callWith pos f first (backTo pos (starEach (e :: es) X.env)) (backToKw pos (keywordEach [] X.env))) := by rfl) :
    PE X (.Call (.Attribute o m apos) (e :: es) [] pos) (tSMethS C sp E ta t) := by
  refine ⟨fun pins s σ H Q I h => ?_⟩
  refine PySem.W.methodCall_KW (pl := pl) (thn (he.run pins s σ H _ I h) fun u s1 ⟨x, H1, I1, rx, ex, q⟩ => ?_) ht
  subst ex
  obtain rfl : u = Value.ref C := rx
  refine PySem.W.method_cls I1.kIn r.ga (getsm_ok I1 r c fun s2 I2 => ?_)
  refine PySem.W.callWith_K (first := []) (h₀ := X.base) I.ok.mod.kin c.kp (thn (ha.run pos pins s2 σ H1 _ I2 q) fun us s3 ⟨vs, H2, I3, r3, q2⟩ => ⟨I3.kIn, ?_⟩) hst hpl
  exact wpAny_call (run_fnRS F hr (hx σ) I3 r3 q2)
/-- C( *y), C(e, ..), C(): by a positional promise of __init__ -/
theorem run_makeRS {Q : VK} {us : List Value} {vs : List V} (M : Mk X.K C f) (F : FnR X.prog X.w X.K X.mg X.base CX k f sp) (hr : Room (k + 1) X.A) (hx : PassesAt CX X σ (E σ)) (I : Inv X pins σ H s) (r : Vals vs us)
    (h : ∀ x dx, H x = Option.none → H dx = Option.none → dx ≠ x → sp (V.ref x :: vs) (upd (upd H dx (.own x)) x (.ins C dx [])) (fun v H2 => v = .non ∧ Q (.ref x) H2) (E σ)) :
    wpAny (model X.prog X.w) X.A (call (.ref C) us) (EP X pins σ Q) X.xe s := by
  have hq := h (s.heap.objs.size + 1) s.heap.objs.size (I.hok.fresh (Nat.le_succ _)) (I.hok.fresh (Nat.le_refl _)) (Nat.ne_of_lt (Nat.lt_succ_self _))
  have I2 := Inv.made (C := C) I
  have r2 : Vals (V.ref (s.heap.objs.size + 1) :: vs) (Value.ref (s.heap.objs.size + 1) :: us) := .cons rfl r
  refine wpAny_call (make_map (f := f) I.kIn M.makes M.init (beq_iff_eq.mp M.fn) (codeAny_mono (F _ X.stack _ _ (Value.ref (s.heap.objs.size + 1) :: us) _ _ (E σ) (hr.make C us []) (I2.env0.make C us []) r2 hq) fun r s' hq' => ?_))
  cases r with
  | error e => exact hx pins _ _ e s' I2 hq'
  | ok fl =>
    cases fl with
    | ret u =>
      obtain ⟨v, H', I3, rv, ev, q3⟩ := I2.after hq'
      subst ev
      exact ⟨rv, ⟨V.ref (s.heap.objs.size + 1), H', I3, rfl, q3⟩⟩
    | next => exact False.elim hq'
    | brk => exact False.elim hq'
    | cont => exact False.elim hq'
def tMakeRS (C : Addr) (sp : Sp) (E : L2.St → XK) (t : TA) : TE := fun σ H Q => t σ H fun vs H1 => ∀ x dx, H1 x = Option.none → H1 dx = Option.none → dx ≠ x →
  sp (V.ref x :: vs) (upd (upd H1 dx (.own x)) x (.ins C dx [])) (fun v H2 => v = .non ∧ Q (.ref x) H2) (E σ)
theorem pe_makeRS (M : Mk X.K C f) (F : FnR X.prog X.w X.K X.mg X.base CX k f sp) (hr : Room (k + 1) X.A) (hg : Gl X x) (hm : X.mg x = some (.ref C)) (hx : ∀ σ, PassesAt CX X σ (E σ)) (ha : PA X (e :: es) t) (hdb : (x == ("__debug__" : Str)) = false := by decide)
    (he : starEach (e :: es) X.env = (false, eval e X.env) :: starEach es X.env := by rfl) (hpl : (backTo pos (starEach es X.env)).any (·.1) = false := by rfl) : PE X (.Call (.Name x q) (e :: es) [] pos) (tMakeRS C sp E t) := by
  refine ⟨fun pins s σ H Q I h => ?_⟩
  refine wpAny_Call_Name_kw (ld_glob I hg hm ?_ hdb)
  refine PySem.W.callWith_K (h₀ := X.base) I.ok.mod.kin M.kp (thn (ha.run pos pins s σ H _ I h) fun us s1 ⟨vs, H1, I1, r, q⟩ => ⟨I1.kIn, ?_⟩) he hpl
  exact run_makeRS M F hr (hx σ) I1 r q
theorem pe_makeRS0 (M : Mk X.K C f) (F : FnR X.prog X.w X.K X.mg X.base CX k f sp) (hr : Room (k + 1) X.A) (hg : Gl X x) (hm : X.mg x = some (.ref C)) (hx : ∀ σ, PassesAt CX X σ (E σ)) (hdb : (x == ("__debug__" : Str)) = false := by decide) :
    PE X (.Call (.Name x q) [] [] pos) (tMakeRS C sp E tNil) := by
  refine ⟨fun pins s σ H Q I h => ?_⟩
  refine wpAny_Call_Name_kw (ld_glob I hg hm ?_ hdb)
  exact PySem.W.callWith_K0 I.kIn M.kp (run_makeRS (us := []) M F hr (hx σ) I .nil h)
def tMakeSt (K : PySem.W.Frag) (C : Addr) (sp : Sp) (E : L2.St → XK) (te : TE) : TE := fun σ H Q => te σ H fun y H1 => ∃ a xs, y = V.ref a ∧ (SqT K H1 a xs ∨ SqL K H1 a xs) ∧ ∀ x dx, H1 x = Option.none → H1 dx = Option.none → dx ≠ x →
  sp (V.ref x :: xs) (upd (upd H1 dx (.own x)) x (.ins C dx [])) (fun v H2 => v = .non ∧ Q (.ref x) H2) (E σ)
theorem pe_makeSt (M : Mk X.K C f) (F : FnR X.prog X.w X.K X.mg X.base CX k f sp) (hr : Room (k + 1) X.A) (hg : Gl X x) (hm : X.mg x = some (.ref C)) (hx : ∀ σ, PassesAt CX X σ (E σ)) (he : PE X e te) (hdb : (x == ("__debug__" : Str)) = false := by decide)
    (hst : starEach [.Starred e sp_] X.env = [(true, eval e X.env)] := by rfl) : PE X (.Call (.Name x q) [.Starred e sp_] [] pos) (tMakeSt X.K C sp E te) := by
  refine ⟨fun pins s σ H Q I h => ?_⟩
  refine wpAny_Call_Name_kw (ld_glob I hg hm ?_ hdb)
  refine PySem.W.callWith_S (h₀ := X.base) I.ok.mod.kin M.kp (thn (he.run pins s σ H _ I h) fun v s1 ⟨y, H1, I1, ry, a, xs, ey, hxs, q⟩ => ?_) hst
  subst ey
  obtain rfl : v = Value.ref a := ry
  exact StX.star_any I1 hxs fun us s2 I2 rv => ⟨I2.kIn, run_makeRS M F hr (hx σ) I2 rv q⟩
/-- len(o), o an instance of the class at C whose __len__ is the def at g -/
theorem call_lenO {E : XK} (F : FnR X.prog X.w X.K X.mg X.base CX k g sp) (hr : Room (k + 1) X.A) (hx : Passes CX X E) (hs : PySem.W.findIn X.K (.ref C) "__len__" = some (some (.ref g))) (hf : PySem.W.isFn X.K (.ref g) = true) :
    CallR X (.builtin "len") (fun xs H Q => ∃ a dx fs, xs = [V.ref a] ∧ H a = some (.ins C dx fs) ∧ sp [V.ref a] H (fun v H' => ∃ n : Nat, v = .int n ∧ n ≤ 1000 ∧ Q (.int n) H') E) := by
  intro pins s σ H xs us Q I r h
  obtain ⟨a, dx, fs, rfl, ha, h⟩ := h
  obtain ⟨u, rfl, hu⟩ := vals1 r
  obtain rfl : u = Value.ref a := hu
  obtain ⟨mA, O, _, _, _, _⟩ := ins_get I.hok ha
  obtain ⟨od, J, _⟩ := O.look
  refine Calls.call_function_entry kind_len plain_len entry_len (args_len1 _) ?_
  unfold Builtin.«len»
  refine wpAny_bind (m := oneArg "len" _) (wpAny_pure ?_)
  have r2 : Vals [V.ref a] [Value.ref a] := .cons rfl .nil
  refine wpAny_bind (m := callSpecial? (.ref a) (Str.ofString "__len__")) (PySem.W.special_fn (args := []) I.kIn J hs (beq_iff_eq.mp hf) (wpAny_call (codeAny_mono (F X.A.in1 X.stack s H [.ref a] [.ref a] _ E hr.in1 I.env0.in1 r2 h) fun r s' hq => ?_)))
  cases r with
  | error e => exact hx pins σ H s e s' I hq
  | ok fl =>
    cases fl with
    | ret u =>
      obtain ⟨v, H', I3, rv, n, ev, hn, q3⟩ := I.after hq
      subst ev
      obtain ⟨tk, eu⟩ := (show ∃ tk, u = Value.int n tk from rv)
      subst eu
      refine wpAny_bind (wpAny_holding (wpAny_pure ?_))
      refine wpAny_bind (wpAny_letGo ?_)
      show wpAny _ _ (if ((n : Nat) : Int) < 0 then _ else _) _ _ _
      rw [if_neg (by omega)]
      show wpAny _ _ (if ((n : Nat) : Int) ≥ 2 ^ 63 then _ else _) _ _ _
      rw [if_neg (by omega)]
      exact wpAny_bind (wpAny_mkInt (wpAny_pure ⟨_, rfl, .int n, H', I3.tok _, ⟨_, rfl⟩, q3⟩))
    | next => exact False.elim hq
    | brk => exact False.elim hq
    | cont => exact False.elim hq
/-! ### data in tuples -/
def rInT (K : PySem.W.Frag) : R2 := fun x y H Q => ∃ d ds, Dp K H x d ∧ Dp K H y (.tuple ds) ∧ SeqAt.shaped d = true ∧ SeqAt.shaped (.tuple ds) = true ∧ Q (.bl (ds.any fun z => PyData.eqv z d)) H
theorem op_inT (hu : X.A.units + 65 < cLine) : OpR X (compareOp .In) (rInT X.K) := by
  intro pins s σ H x y v u Q I rx ry h
  obtain ⟨d, ds, hd, he, sd, se, q⟩ := h
  obtain ⟨as, r1⟩ := Dp.reads I d x v hd rx
  obtain ⟨bs, r2⟩ := Dp.reads I (.tuple ds) y u he ry
  exact SeqAt.in_tuple_reads r2 r1 (SeqAt.canLay_of_shaped se) (SeqAt.canLay_of_shaped sd) (room_in_shaped sd hu) ⟨.bl _, H, I, rfl, q⟩
/-- t.index(x): the first place of an equal one -/
def rIndexT (K : PySem.W.Frag) : V → List V → Hp → VK → Prop := fun x xs H Q => ∃ (a : Addr) (y : V) (d : PyData) (ds : List PyData) (j : Nat) (z : PyData), x = V.ref a ∧ xs = [y] ∧ Dp K H (V.ref a) (.tuple ds) ∧ Dp K H y d ∧
  SeqAt.shaped (.tuple ds) = true ∧ SeqAt.shaped d = true ∧ ds[j]? = some z ∧ PyData.eqv z d = true ∧ (∀ (m : Nat) (z' : PyData), m < j → ds[m]? = some z' → PyData.eqv z' d = false) ∧ Q (.int (j : Nat)) H
theorem mt_tindexD (hu : X.A.units + 65 < cLine) : MtR X "tuple.index" (rIndexT X.K) := by
  intro pins s σ H x xs v us Q I rx rxs h
  obtain ⟨a, y, d, ds, j, z, rfl, rfl, hl, hy, sl, sd, hz, hzj, hno, q⟩ := h
  cases rx
  cases rxs with
  | cons ry rt =>
    rename_i uy ut
    cases rt
    obtain ⟨bs, r1⟩ := Dp.reads I d y uy hy ry
    have hxs : PyData.canLayAll0 ds = true := SeqAt.canLay_of_shaped sl
    have hroom : X.A.units + 1 + min (PyData.depthAll ds) d.depth < cLine := room_in_shaped sd hu
    cases hl with
    | tup hs ha =>
      obtain ⟨its, rv, ⟨⟨cls, dd, data, sls⟩, ho, hc, n, hdt⟩, hlen⟩ := I.tuple hs
      simp only at hc hdt
      subst hc hdt
      obtain ⟨as, h4⟩ := Dp.readsAll I ds _ its ha rv
      have hn : its.length = ds.length := SeqAt.ReadsAll.length ds its as h4
      have hmap : its.map (SeqAt.readOf s.heap) = ds := SeqAt.readsAll_map ds its as hxs h4
      have hvl := rv.length
      obtain ⟨hjd, _⟩ := List.getElem?_eq_some_iff.mp hz
      have hjl : j < its.length := by omega
      have hj : j < its.toArray.size := by simpa using hjl
      have at_ : ∀ (m : Nat) (hm : m < its.toArray.size) (z' : PyData), ds[m]? = some z' → SeqAt.readOf s.heap its.toArray[m] = z' := by
        intro m hm z' hz'
        have hml : m < its.length := by simpa using hm
        rw [← hmap, List.getElem?_map, List.getElem?_eq_getElem hml] at hz'
        have e1 : SeqAt.readOf s.heap its[m] = z' := Option.some.inj (show some (SeqAt.readOf s.heap its[m]) = some z' from hz')
        simpa using e1
      refine call_meets PySem.F.slot_tuple_index ⟨_, ho, rfl⟩ PySem.F.entry_tuple_index (PySem.F.args_tuple_index_2 _ _)
        (TI.tuple_indexAt a its.toArray n dd sls uy (fun u => PyData.eqv (SeqAt.readOf s.heap u) d) j hj ?_ ?_) ⟨ho, SeqAt.items_eqAt (vs := its.toArray) (show ReadsAll s.heap its.toArray.toList ds as from h4) r1 hxs (SeqAt.canLay_of_shaped sd) hroom, ?_⟩
      · show PyData.eqv (SeqAt.readOf s.heap its.toArray[j]) d = true
        rw [at_ j hj z hz]
        exact hzj
      · intro m hm hmj
        have hmd : m < ds.length := by omega
        have hz' : ds[m]? = some ds[m] := List.getElem?_eq_getElem hmd
        show PyData.eqv (SeqAt.readOf s.heap its.toArray[m]) d = false
        rw [at_ m hm _ hz']
        exact hno m _ hmj hz'
      · exact ⟨.int (j : Nat), H, I.tok _, ⟨_, rfl⟩, q⟩
/-- xs.count(z), texts -/
def rCntS (K : PySem.W.Frag) : V → List V → Hp → VK → Prop := fun x xs H Q => ∃ (p : Addr) (ys : List Str) (z : Str), x = .ref p ∧ xs = [.str z] ∧ SqL K H p (ys.map V.str) ∧ Q (.int (countIn (.str z) (ys.map PyData.str))) H
theorem mt_lcountS : MtR X "list.count" (rCntS X.K) := by
  intro pins s σ H x xs v us Q I rx rxs h
  obtain ⟨p, ys, z, rfl, rfl, hs, q⟩ := h
  cases rx
  obtain ⟨u, rfl, ru⟩ := rxs.one
  obtain ⟨t, rfl⟩ := ru
  obtain ⟨its, rv, pl, hlen⟩ := I.list hs
  exact count_list_strs pl.isList (strsAre_of rv) ⟨.int _, H, I.tok _, ⟨_, rfl⟩, q⟩
/-! ### repr of what is flat -/
def reprV : V → Option Str
  | .int i => some (toString i)
  | .bl b => some (if b then "True" else "False")
  | .non => some "None"
  | .str z => some (reprText z)
  | _ => none
def rRepr (xs : List V) (H : Hp) (Q : VK) : Prop := ∃ v z, xs = [v] ∧ reprV v = some z ∧ (∀ i, v = .int i → i.natAbs.log2 < 1920) ∧ (∀ y, v = .str y → (reprText y).length ≤ sizeLine) ∧ Q (.str z) H
theorem call_reprF : CallR X (.builtin "repr") rRepr := by
  intro pins s σ H xs us Q I r h
  obtain ⟨v, z, rfl, hz, hi, hs, q⟩ := h
  obtain ⟨u, rfl, hu⟩ := vals1 r
  cases v with
  | int i =>
    obtain ⟨t, rfl⟩ := hu
    cases hz
    exact PySem.P.repr_of_int (hi i rfl) ⟨.str _, H, I.tok _, ⟨_, rfl⟩, q⟩
  | bl b =>
    cases (show u = Value.bool b from hu)
    cases hz
    exact PySem.P.repr_of_bool ⟨.str _, H, I.tok _, ⟨_, rfl⟩, q⟩
  | non =>
    cases (show u = Value.none from hu)
    cases hz
    exact PySem.P.repr_of_none ⟨.str _, H, I.tok _, ⟨_, rfl⟩, q⟩
  | str y =>
    obtain ⟨t, rfl⟩ := hu
    cases hz
    exact PySem.P.repr_of_str ⟨.str _, H, I.tok _, ⟨_, rfl⟩, q⟩ (hs y rfl)
  | byt b => cases hz
  | flt b => cases hz
  | ref a => cases hz
  | ty n => cases hz
end
end OO

/-! enumerate of a tuple. -/
namespace OO
open PySem PySem.Sem
open AutoSeq1 (wpAny_loadPart')
theorem meets_enumerate_newT (l : Addr) (items : Array Value) (n : Nat) (dct : Option Addr) (sl : Array (Option Value)) :
    Meets (Builtin.«enumerate.__new__» ⟨[.type "enumerate", .ref l], []⟩) (fun _ R s => s.heap.get? l = some { cls := .type "tuple", dict := dct, data := .seq items n, slots := sl } ∧
      R (.ok (.ret (.ref (s.heap.push { cls := .type "tuple_iterator", data := .fields #[.ref l, .int 0 0] }).objs.size)))
        { s with heap := (s.heap.push { cls := .type "tuple_iterator", data := .fields #[.ref l, .int 0 0] }).push { cls := .type "enumerate", data := .fields #[.none, .bool false, .ref s.heap.objs.size, rawInt 0, .none, .none] } }) :=
  .of_wp fun prog w A R s h => by
    obtain ⟨hp, g, d, tk, os⟩ := s; obtain ⟨hl, h⟩ := h
    have hsub := sub_enumerate
    have hL : Heap.IsTuple (Shared.heap ⟨hp, g, d, tk, os⟩) l items := ⟨_, hl, rfl, n, rfl⟩
    wp_walk using wpAny_loadPart' hl
    refine wpAny_stack_any fun st => wpAny_pure ?_
    split
    · rename_i c _ _ _ _ _
      cases (c == Value.type "enumerate")
      · wp_walk using wpAny_loadPart' hl, wpAny_pyIter_tuple hL
        exact ⟨_, rfl, h⟩
      · wp_walk using wpAny_loadPart' hl, wpAny_pyIter_tuple hL
        exact ⟨_, rfl, h⟩
    · wp_walk using wpAny_loadPart' hl, wpAny_pyIter_tuple hL
      exact ⟨_, rfl, h⟩
theorem call_enumerate_tuple {prog : Program} {w : World} {A : Around} {E : Value → Shared → Prop} {s : Shared} {l : Addr} {items : Array Value} {Q : Value → Shared → Prop} (hL : s.heap.IsTuple l items)
    (h : ∀ h', IsEnum h' (s.heap.objs.size + 1) s.heap.objs.size 0 .none → h'.IsTupleIter s.heap.objs.size l 0 → h'.objs.size = s.heap.objs.size + 2 →
      (∀ b o, s.heap.get? b = some o → h'.get? b = some o) → Q (.ref (s.heap.objs.size + 1)) { s with heap := h' }) :
    wpAny (model prog w) A (call (.type "enumerate") [.ref l]) Q E s := by
  obtain ⟨⟨c, dct, dt, sl⟩, hl, hc, n, hd⟩ := hL
  replace hc : c = .type "tuple" := hc
  replace hd : dt = .seq items n := hd
  subst hc hd
  refine callType_new F.called_enumerate (by decide) (F.typeCall_enumerate_1 _) (F.newCall_enumerate_1 _) (fun obj => F.args_object_init_2 obj _) F.entry_enumerate_new
    (meets_enumerate_newT l items n dct sl) ⟨hl, ?_⟩
  have hz : (s.heap.push { cls := .type "tuple_iterator", data := .fields #[.ref l, .int 0 0] }).objs.size = s.heap.objs.size + 1 := Heap.size_push ..
  show _ ∧ _
  rw [hz]
  have he : IsEnum ((s.heap.push { cls := .type "tuple_iterator", data := .fields #[.ref l, .int 0 0] }).push
      { cls := .type "enumerate", data := .fields #[.none, .bool false, .ref s.heap.objs.size, rawInt 0, .none, .none] }) (s.heap.objs.size + 1) s.heap.objs.size 0 .none := by
    have := Heap.get?_push_size (s.heap.push { cls := .type "tuple_iterator", data := .fields #[.ref l, .int 0 0] })
      (o := { cls := .type "enumerate", data := .fields #[.none, .bool false, .ref s.heap.objs.size, rawInt 0, .none, .none] }) rfl
    rw [hz] at this; exact this
  refine ⟨⟨_, he, rfl⟩, h _ he ⟨_, Heap.get?_push_of_some _ (Heap.get?_push_size _ rfl), rfl, rfl⟩ (by rw [Heap.size_push, hz]) fun b o x => Heap.get?_push_of_some _ (Heap.get?_push_of_some _ x)⟩
end OO
namespace OO
open PySem PySem.Spec PyProof.Rows L2
/-- the tuple at a, each item in a new pair -/
def IteT (K : PySem.W.Frag) (a : Addr) : It :=
  ⟨fun i H => ∃ (xs : List V) (x : V), SqT K H a xs ∧ xs[i]? = some x, fun i H v H' => ∃ T x, v = .ref T ∧ H T = none ∧ H' = upd H T (.tup [.int (i : Nat), x]) ∧ ∀ xs, SqT K H a xs → xs[i]? = some x, fun i H => ∃ xs : List V, SqT K H a xs ∧ xs.length ≤ i⟩
theorem tupIter_ne {h : Heap} {a it : Addr} {i : Nat} {its : Array Value} (p : h.IsTuple a its) (q : h.IsTupleIter it a i) : a ≠ it := fun z => by
  obtain ⟨o, ho, hc, _⟩ := p
  obtain ⟨o2, ho2, hc2, _⟩ := q
  rw [z, ho2] at ho
  have := Option.some.inj ho
  subst this
  rw [hc2] at hc
  exact absurd hc (by decide)
theorem enum_ne {h : Heap} {a e it : Addr} {i : Int} {old : Value} {its : Array Value} (p : h.IsTuple a its) (q : IsEnum h e it i old) : e ≠ a := fun z => by
  obtain ⟨o, ho, hc, _⟩ := p
  rw [← z, q] at ho
  have := Option.some.inj ho
  subst this
  exact absurd (Value.type.inj hc) (by decide)
theorem turn_enumT {P : Program} {w : World} {K : PySem.W.Frag} {elts : List Expr} {kk : Nat} {tpos : Pos} (a e it : Addr) :
    Turn P w K (.Tuple elts kk tpos) (IteT K a) [e, it] e (fun i h => (∃ old, IsEnum h e it ((i : Nat) : Int) old) ∧ h.IsTupleIter it a i ∧ e ≠ it) where
  mem := by simp
  obj := fun i h st b hb => by
    obtain ⟨⟨old, he⟩, ⟨o, ho, hc, hd⟩, _⟩ := st
    have e' : b = e ∨ b = it := by simpa using hb
    rcases e' with z | z
    · rw [z]; exact ⟨_, he, fun v q => nomatch q⟩
    · rw [z]; exact ⟨o, ho, fun v q => by rw [hd] at q; cases q⟩
  keep := fun i h h' st k => let ⟨⟨old, he⟩, hi, hne⟩ := st; ⟨⟨old, k e (by simp) _ he⟩, hi.at fun o q => k it (by simp) o q, hne⟩
  item := by
    intro X hP hw hK hc i pins s σ H E I hf st hg
    subst hP hw hK
    obtain ⟨⟨old, he⟩, hit, hne⟩ := st
    obtain ⟨xs, x, hq, hx⟩ := hg
    obtain ⟨its, rv, p, hz⟩ := I.tuple hq
    obtain ⟨u, hu, ru⟩ := rv.get hx
    have hel : e < s.heap.objs.size := Heap.lt_size he
    have hil : it < s.heap.objs.size := by obtain ⟨_, q, _⟩ := hit; exact Heap.lt_size q
    have hat := tupIter_ne p hit
    have hlt : i < its.toArray.size := by
      have := (List.getElem?_eq_some_iff.mp hu).1
      simpa using this
    refine wpAny_pyNext_enum_itemD (Draws.tuple (A := X.A.in1) (show X.A.in1.handled = none from I.ok.hd hc) it a hat its.toArray) he ⟨hit, p⟩ hlt hne (by
      have := enum_ne p he
      simp [hne, this]) fun x' h' tk hx' ho st' hT hsz hk => ?_
    have hit' := st'.1
    have ex : x' = u := by
      have h1 : its[i]? = some x' := by simpa using hx'
      exact Option.some.inj (h1.symm.trans hu)
    subst ex
    refine ⟨_, rfl, wpAny_letOwnedTupleGo_enum (s := { s with heap := h', toks := tk + 1 }) ho fun h'' he' sb => ?_⟩
    have hT2 : h''.get? s.heap.objs.size = some { cls := .type "tuple", data := .seq #[.int i tk, x'] } := (sb.2 _ (Nat.ne_of_gt hel)).trans hT
    have new : ObjOk X.prog X.w (upd H s.heap.objs.size (.tup [.int (i : Nat), x])) h'' s.heap.objs.size (.tup [.int (i : Nat), x]) :=
      ⟨by show 2 ≤ sizeLine; decide, [.int i tk, x'], .cons ⟨_, rfl⟩ (.cons ru .nil), ⟨_, hT2, rfl, _, rfl⟩⟩
    have I1 : Inv X pins σ (upd H s.heap.objs.size (.tup [.int (i : Nat), x])) { s with heap := h'', toks := tk + 1 } :=
      I.turnedNew (ch := [e, it]) (fun b ob hb q => (sb.2 b (fun z => hb (by simp [z]))).trans (hk b ob (fun z => hb (by simp [z])) (fun z => hb (by simp [z])) q)) hf (Nat.le_refl _) new
    refine ⟨.ref s.heap.objs.size, _, I1, rfl, ⟨_, x, rfl, I.hok.fresh (Nat.le_refl _), rfl, fun ys hy => by rw [I.tuple_inj hy hq]; exact hx⟩, ⟨⟨x', ?_⟩, hit'.at fun o q => (sb.2 it (Ne.symm hne)).trans q, hne⟩, fun b hb => ?_⟩
    · have e1 : ((i + 1 : Nat) : Int) = (i : Int) + 1 := by omega
      rw [e1]; exact he'
    · have hb' : b < s.heap.objs.size := by
        have e' : b = e ∨ b = it := by simpa using hb
        rcases e' with z | z
        · rw [z]; exact hel
        · rw [z]; exact hil
      rw [upd_ne (Nat.ne_of_lt hb')]
      exact (hf b hb).1
  done := by
    intro X hP hw hK hc i pins s σ H E I hf st hg
    subst hP hw hK
    obtain ⟨⟨old, he⟩, hit, hne⟩ := st
    obtain ⟨xs, hq, hx⟩ := hg
    obtain ⟨its, rv, p, hz⟩ := I.tuple hq
    obtain ⟨f0, f1, f2, f3, f4, f5⟩ := hf it (by simp)
    have hl := rv.length
    have hat := tupIter_ne p hit
    have hh : X.A.in1.handled = none := I.ok.hd hc
    have hT : s.TypeIs (.ref e) "enumerate" := ⟨_, he, rfl⟩
    show wpAny _ _ (pyNext (.ref e)) _ _ _
    unfold pyNext
    refine wpAny_bind (wpAny_attempt (wpAny_callSpecial?_slot (name := Str.ofString "__next__") hT F.slot_enumerate_next
      (wpAny_call_entry F.slot_enumerate_next hT F.entry_enumerate_next ?_ (F.args_enumerate_next_1 _))))
    show wpAny _ _ (field (.ref e) 2 >>= _) _ _ _
    refine wpAny_bind (wpAny_field he rfl (x := .ref it) rfl ?_)
    refine wpAny_bind (wpAny_nextOf_tuple_end hh hit p (by simp; omega) fun h' x eb hx' => ?_)
    obtain ⟨o, ho, hcl⟩ := hx'
    refine wpAny_bind (wpAny_isInstance (T := "StopIteration") (b := true) ⟨o, ho, hcl⟩ isSubtype_stop ?_)
    exact wpAny_pure ⟨rfl, I.turned (t' := s.toks) (fun b o hb q => eb b o hb q) f0 f1 f3 f4 f5⟩
  self := fun A i s Q E st h => let ⟨⟨_, he⟩, _⟩ := st; wpAny_pyIter_enum he h
def iEnumT (K : PySem.W.Frag) (ta : TA) : TI := fun σ H R => ta σ H fun vs H1 => ∃ a xs, vs = [.ref a] ∧ SqT K H1 a xs ∧ R (IteT K a) H1
theorem pi_enumT {X : Cx} {e : Expr} {ta : TA} {p pos tpos : Pos} {elts : List Expr} {kk : Nat} (hg : Gl X "enumerate") (hm : X.mg "enumerate" = none) (ha : PA X [e] ta) (hs : starEach [e] X.env = [(false, eval e X.env)] := by rfl) :
    PI X (.Tuple elts kk tpos) (.Call (.Name "enumerate" p) [e] [] pos) (iEnumT X.K ta) := by
  refine ⟨fun pins s σ H R I h => ?_⟩
  refine Call_ (ld_blt I hg hm boot_enumerate (PyProof.Rows.callWith_type1 (thn (ha.run pos pins s σ H _ I h) fun us s1 ⟨vs, H1, I1, r1, q1⟩ => ?_) hs rfl))
  obtain ⟨a, xs, ex, hq, q⟩ := q1
  subst ex
  cases r1 with
  | cons r rr =>
    cases rr
    cases r
    obtain ⟨its, rv, p', hz⟩ := I1.tuple hq
    refine call_enumerate_tuple p' fun h' he hit hsz hk => wpAny_pyIter_enum he ?_
    have I2 : Inv X pins σ H1 { s1 with heap := h' } := I1.kept (t' := s1.toks) hk
    refine ⟨s1.heap.objs.size + 1, [s1.heap.objs.size + 1, s1.heap.objs.size], _, _, H1, rfl, I2, turn_enumT a (s1.heap.objs.size + 1) s1.heap.objs.size, ⟨⟨.none, he⟩, hit, Nat.succ_ne_self _⟩, fun b hb => ?_, q⟩
    have e' : b = s1.heap.objs.size + 1 ∨ b = s1.heap.objs.size := by simpa using hb
    have hle : s1.heap.objs.size ≤ b := by
      rcases e' with z | z
      · rw [z]; exact Nat.le_add_right _ _
      · rw [z]; exact Nat.le_refl _
    exact I1.fpOk hle (I1.hok.fresh hle)
theorem walk_enumT {K : PySem.W.Frag} {a : Addr} {xs : List V} : Walk (IteT K a) xs.length (fun H => SqT K H a xs) (YPair (fun i => some (.int (i : Nat))) (fun i => xs[i]?)) := by
  refine ⟨fun i _ hi q => ⟨xs, xs[i], q, by simp [hi]⟩, fun _ q => ⟨xs, q, Nat.le_refl _⟩, fun i H v H' _ q y => ?_⟩
  obtain ⟨T, x, h1, h2, h3, h4⟩ := y
  exact ⟨T, .int (i : Nat), x, h1, h2, h3, rfl, h4 xs q⟩
end OO

/-! Error classes of a program's own that store what they are made of: made and raised, their field read off where they are caught. -/
namespace OO
open PySem PySem.Spec PyProof.Rows L2 GG
structure ExT (K : PySem.W.Frag) (mg : Str → Option Value) (nm fld : Str) (S fI : Addr) : Prop where
  g : mg nm = some (.ref S)
  o : OexC K S
  no : PySem.W.findIn K (.ref S) fld = some none
  x : XfC K S
  i : PySem.W.findIn K (.ref S) "__init__" = some (some (.ref fI))
  t : PySem.W.typeIn K (.ref fI) = some (.type "function")
  te : PySem.W.exmOne K (.ref S) (.ref S) = some true
def spExI (S : Addr) (fld : Str) : Sp := fun vs H Q _ => ∃ (a : Addr) (v : V), vs = [.ref a, v] ∧ H a = some (exo a S none) ∧ ∀ dx, H dx = none → dx ≠ a → Q .non (upd (upd H dx (exd dx [(fld, v)])) a (exo a S (some dx)))
theorem mko {S : Addr} {fld : Str} {v : V} {H1 : Hp} {Q : XK} (q : ∀ (d : Addr) (H' : Hp), H1 d = none → Same H1 H' → H' d = some (.xd [(fld, v)]) → Q (.ref S) (some d) H') :
    [v].length ≤ 1000 ∧ ∀ a, H1 a = none → spExI S fld (.ref a :: ([v] ++ [])) (upd H1 a (exo a S none))
      (fun v' H2 => v' = .non ∧ ∃ (d : Addr) (fs : List (Str × V)), H2 a = some (exo a S (some d)) ∧ H2 d = some (exd d fs) ∧ H1 d = none ∧ Q (.ref S) (some d) (upd (del H2 a) d (.xd fs))) (fun _ _ _ => False) := by
  refine ⟨by show 1 ≤ 1000; decide, fun a ha => ⟨a, v, rfl, upd_same, fun dx hdx hne => ?_⟩⟩
  have hd : H1 dx = none := by
    rw [upd_ne hne] at hdx
    exact hdx
  refine ⟨rfl, dx, [(fld, v)], upd_same, by rw [upd_ne hne]; exact upd_same, hd, q dx _ hd (fun b o e => ?_) upd_same⟩
  have h1 : b ≠ dx := ne_of_none e hd
  have h2 : b ≠ a := ne_of_none e ha
  rw [upd_ne h1, del_ne h2, upd_ne h2, upd_ne h1, upd_ne h2]
  exact e
/-- what is known of the class, in one fact for each part -/
theorem exT_of {K : PySem.W.Frag} {h : Heap} {mg : Str → Option Value} {nm fld : Str} {S fI : Addr} (X : K.In h) (G : h.Ns mainGlobals mg) {nn q : Str} {N : Addr} {bs bm : List Value} {sn : List Str} {sub : List Value} {ab : Bool} {col : Option Bool} {dd : Option Addr} {k0 k1 k2 k3 k5 : Option Value}
    (a : PySem.W.nsIn K mainGlobals nm = some (some (.ref S))) (l : K.lookup S = some (excClassObj nn q S N bs bm true sn sub ab col dd k0 k1 k2 k3 k5 "ValueError.__new__")) (hb : PySem.HandSPX.refsVE bm = true)
    (sa : PySem.W.findIn K (.ref S) "__setattr__" = some (some (.builtin "object.__setattr__"))) (ex : PySem.W.subIn K (.ref S) (.type "BaseException") = some true) (ty : PySem.W.typeIn K (.ref S) = some (.type "type")) (kp : PySem.W.keepIn K (.ref S) = true)
    (no : PySem.W.findIn K (.ref S) fld = some none) (ga : PySem.W.findIn K (.ref S) "__getattribute__" = some (some (.builtin "BaseException.__getattribute__"))) (gg : PySem.W.findIn K (.ref S) "__getattr__" = some none) (hd : PySem.W.hasDictIn K S = true)
    (i : PySem.W.findIn K (.ref S) "__init__" = some (some (.ref fI))) (t : PySem.W.typeIn K (.ref fI) = some (.type "function")) (ic : PySem.W.isClsIn K S = true) (ss : PySem.W.subIn K (.ref S) (.ref S) = some true) : ExT K mg nm fld S fI where
  g := PySem.W.mg_of X G a
  o := ⟨⟨_, _, _, _, _, _, _, _, _, _, _, _, _, _, _, l, hb⟩, sa, ex, ty, kp⟩
  no := no
  x := ⟨ga, gg, ex, hd⟩
  i := i
  t := t
  te := by
    have e1 : (PySem.W.subIn K (.ref S) (.type "BaseException") == some true) = true := by rw [ex] <;> rfl
    have e2 : ((PySem.W.clsIn K S).isSome && PySem.W.typeIn K (.ref S) == some (.type "type")) = true := by
      have h2' : (PySem.W.clsIn K S).isSome = true := ic
      rw [h2', ty] <;> rfl
    show (if (PySem.W.subIn K (.ref S) (.type "BaseException") == some true) = true then (if ((PySem.W.clsIn K S).isSome && PySem.W.typeIn K (.ref S) == some (.type "type")) = true then PySem.W.subIn K (.ref S) (.ref S) else none) else none) = some true
    rw [if_pos e1, if_pos e2]
    exact ss
/-- at x: an instance of the class at C with such attributes -/
def At (C : Addr) (H : Hp) (x : Addr) (fs : List (Str × V)) : Prop := ∃ dx, H x = some (.ins C dx fs)
theorem At.same {C : Addr} {H H' : Hp} {x : Addr} {fs : List (Str × V)} (h : At C H x fs) (s : Same H H') : At C H' x fs := by
  obtain ⟨dx, h⟩ := h
  exact ⟨dx, s _ _ h⟩
end OO

/-! Defs with a star parameter as they stand in the text. -/
namespace OO
open PySem PySem.Spec PyProof.Rows L2 GG
/-! ### data apart from an object that is changed -/
theorem rd_keep {x : Addr} {H H' : Hp} {C dx : Addr} {fs : List (Str × V)} (k : Keep x H H') (hx : H x = some (.ins C dx fs)) {a : Addr} {o : HO} (ho : ∀ C dx fs, o ≠ .ins C dx fs) (h : Rd H a o) : Rd H' a o := by
  rcases h with h | ⟨u, h⟩
  · refine .inl (k a (fun e => ?_) _ h)
    rw [e, hx] at h
    exact ho _ _ _ (Option.some.inj h).symm
  · refine .inr ⟨u, k a (fun e => ?_) _ h⟩
    rw [e, hx] at h
    cases h
mutual
theorem dp_keep {K : PySem.W.Frag} {x : Addr} {H H' : Hp} {C dx : Addr} {fs : List (Str × V)} (k : Keep x H H') (hx : H x = some (.ins C dx fs)) : ∀ (d : PyData) (v : V), Dp K H v d → Dp K H' v d
  | .none, _, h => by cases h; exact .non
  | .bool b, _, h => by cases h; exact .bl b
  | .int i, _, h => by cases h; exact .int i
  | .str z, _, h => by cases h; exact .str z
  | .list ds, _, h => by
    cases h with
    | lst hs ha => exact .lst (hs.elim (fun z => .inl (rd_keep k hx (fun _ _ _ e => by cases e) z)) .inr) (dpAll_keep k hx ds _ ha)
  | .tuple ds, _, h => by
    cases h with
    | tup hs ha => exact .tup (hs.elim (fun z => .inl (rd_keep k hx (fun _ _ _ e => by cases e) z)) .inr) (dpAll_keep k hx ds _ ha)
  | .dict _, _, h => by cases h
theorem dpAll_keep {K : PySem.W.Frag} {x : Addr} {H H' : Hp} {C dx : Addr} {fs : List (Str × V)} (k : Keep x H H') (hx : H x = some (.ins C dx fs)) : ∀ (ds : List PyData) (vs : List V), DpAll K H vs ds → DpAll K H' vs ds
  | [], _, h => by cases h; exact .nil
  | d :: ds, _, h => by
    cases h with
    | cons h1 h2 => exact .cons (dp_keep k hx d _ h1) (dpAll_keep k hx ds _ h2)
end
theorem val_keep {K : PySem.W.Frag} {x : Addr} {H H' : Hp} {C dx : Addr} {fs : List (Str × V)} {v : V} {d : PyData} (h : Val K H v d) (k : Keep x H H') (hx : H x = some (.ins C dx fs)) : Val K H' v d := by
  rcases h with ⟨h, g⟩ | ⟨rfl, a, kvs, rfl, h⟩
  · exact .inl ⟨dp_keep k hx d v h, g⟩
  · refine .inr ⟨rfl, a, kvs, rfl, k a (fun e => ?_) _ h⟩
    rw [e, hx] at h
    cases h
/-- the promise of a def f(a, .., *v), told of its positional arguments; the tuple of what is left over is known as the object it is -/
def spStar (n : Nat) (sp : Sp) : Sp := fun vs H Q E => ∃ ws rest, vs = ws ++ rest ∧ ws.length = n ∧ rest.length ≤ sizeLine ∧ ∀ (p : Addr) (ob : Obj), H p = none → ob.cls = .type "tuple" → ob.dict = none → sp (ws ++ [V.ref p]) (upd H p (.frz ob (.tup rest))) Q E
section
variable {P : Program} {w : World} {K : PySem.W.Frag} {mg : Str → Option Value} {base : Heap}
/-- a def whose arguments beyond the first ones go into a tuple, by the facts of its record -/
theorem star_raw {CX : CXT} {k : Nat} {f : Addr} {nm ql : Str} {pa : Arguments} {bd : List Stmt} {sc : Scope} {v1 v2 v3 v4 v5 v6 v7 : Value} {o1 o2 : Option Addr} {sl : Array (Option Value)} {N qs : List Str} {sp : Sp} {pv : Str}
    (hl : K.lookup f = some ⟨v7, o2, .func (PySem.W.fnOf nm ql pa bd sc v1 v2 v3 v4 o1 v5 v6), sl⟩) (hc : PySem.W.codeIn K v5 ql = true) (S : FnScope N (qs ++ [pv]) sc) (up : StX.CXUp CX)
    (hb : ∀ fst rst : List Value, fst.length = qs.length → bindArgs (PySem.W.fnOf nm ql pa bd sc v1 v2 v3 v4 o1 v5 v6) ⟨fst ++ rst, []⟩ = (newTuple rst >>= fun t => pure (qs.zip fst ++ [(pv, t)])))
    (body : ∀ (A : Around) (outer : List Env) (s : Shared) (H : Hp) (vs : List V) (Q : VK) (E : XK), Room k (A.deeper (envOfC ql sc s.heap.objs.size f v5)) → sp vs H Q E →
      ∃ t, PSs (cxOf CX P w K mg base N ql sc f v5 A outer s H E) bd t ∧ t { nx := fun _ H' => Q .non H', rt := Q } (start N vs) H) :
    FnR P w K mg base CX (k + 1) f (spStar qs.length sp) := by
  rintro A outer s H all _ Q E room e0 rel ⟨ws, rst, rfl, len, fits, want⟩
  obtain ⟨fst, snd, rfl, rel1, rel2⟩ := StX.vals_split rel
  have lfst : fst.length = qs.length := rel1.length.symm.trans len
  have fits2 : snd.length ≤ sizeLine := rel2.length ▸ fits
  have nw : H s.heap.objs.size = none := e0.hok.fresh (Nat.le_refl _)
  refine StX.run_bnd hl hc S room e0 (G := fun xs Hx => ∃ (p : Addr) (ob : Obj), H p = none ∧ ob.cls = .type "tuple" ∧ ob.dict = none ∧ xs = ws ++ [V.ref p] ∧ Hx = upd H p (.frz ob (.tup rst))) ?_ ?_
  · intro A' Ex Q' good
    rw [hb fst snd lfst]
    refine wpAny_bind (wpAny_newTuple (wpAny_pure ?_) fits2)
    have at_ : (s.heap.push ({ cls := .type "tuple", data := .seq snd.toArray } : Obj)).get? s.heap.objs.size = some ({ cls := .type "tuple", data := .seq snd.toArray } : Obj) := Heap.get?_push_size _ rfl
    have un := StX.un_laid (fs := frs outer) (s := s) (o := ({ cls := .type "tuple", data := .seq snd.toArray } : Obj)) (u := .frz ({ cls := .type "tuple", data := .seq snd.toArray } : Obj) (.tup rst)) nw
    have fine := good _ _ (ws ++ [V.ref s.heap.objs.size]) (fst ++ [Value.ref s.heap.objs.size]) (StX.env0_laid (u := .frz ({ cls := .type "tuple", data := .seq snd.toArray } : Obj) (.tup rst)) e0 ⟨at_, fits, snd, rel2, ⟨_, at_, rfl, _, rfl⟩⟩) un rfl
      (fun e s' => up outer s H _ _ E e s' un (fun _ _ z => Heap.get?_push_of_some _ z) rfl) (rel1.append (.cons rfl .nil)) (by simp only [List.length_append, List.length_singleton, len]) ⟨_, _, nw, rfl, rfl, rfl, rfl⟩
    rwa [List.zip_append lfst.symm] at fine
  · rintro s2 _ _ ⟨p, ob, np, hcl, hd, rfl, rfl⟩ room'
    exact body A outer s2 _ _ Q E room' (want p ob np hcl hd)
theorem Fun.star1 {CX : CXT} {x ql : Str} {st : Stmt} {f : Addr} {fd : FuncData} {N : List Str} {p1 pv : Str} {k : Nat} {sp : Sp} (F : Fun K x ql st f fd) (S : FnScope N [p1, pv] (defScope st)) (up : StX.CXUp CX)
    (h0 : ∀ (b c d : Value) (e : Option Addr) (g h u : Value), bindArgs (PySem.W.fnOf x ql (defArgs st) (defBody st) (defScope st) .none b c d e g h) ⟨[u], []⟩ = (newTuple [] >>= fun t => pure [(p1, u), (pv, t)]))
    (h1 : ∀ (b c d : Value) (e : Option Addr) (g h u r : Value) (rs : List Value), bindArgs (PySem.W.fnOf x ql (defArgs st) (defBody st) (defScope st) .none b c d e g h) ⟨u :: r :: rs, []⟩ = (newTuple (r :: rs) >>= fun t => pure [(p1, u), (pv, t)]))
    (body : ∀ (cd : Value) (A : Around) (outer : List Env) (s : Shared) (H : Hp) (vs : List V) (Q : VK) (E : XK), Room k (A.deeper (envOfC ql (defScope st) s.heap.objs.size f cd)) → sp vs H Q E →
      ∃ t, PSs (cxOf CX P w K mg base N ql (defScope st) f cd A outer s H E) (defBody st) t ∧ t { nx := fun _ H' => Q .non H', rt := Q } (start N vs) H) :
    FnR P w K mg base CX (k + 1) f (spStar 1 sp) := by
  obtain ⟨oc, od, b, c, d, e, g, h, osl, rfl, lk, hcd⟩ := F.ex
  exact star_raw (qs := [p1]) lk hcd S up (StX.bind_star1 (B := fun us => bindArgs (PySem.W.fnOf x ql (defArgs st) (defBody st) (defScope st) .none b c d e g h) ⟨us, []⟩) (h0 b c d e g h) (h1 b c d e g h)) (body g)
theorem Fun.star2 {CX : CXT} {x ql : Str} {st : Stmt} {f : Addr} {fd : FuncData} {N : List Str} {p1 p2 pv : Str} {k : Nat} {sp : Sp} (F : Fun K x ql st f fd) (S : FnScope N [p1, p2, pv] (defScope st)) (up : StX.CXUp CX)
    (h0 : ∀ (b c d : Value) (e : Option Addr) (g h u v : Value), bindArgs (PySem.W.fnOf x ql (defArgs st) (defBody st) (defScope st) .none b c d e g h) ⟨[u, v], []⟩ = (newTuple [] >>= fun t => pure [(p1, u), (p2, v), (pv, t)]))
    (h1 : ∀ (b c d : Value) (e : Option Addr) (g h u v r : Value) (rs : List Value), bindArgs (PySem.W.fnOf x ql (defArgs st) (defBody st) (defScope st) .none b c d e g h) ⟨u :: v :: r :: rs, []⟩ = (newTuple (r :: rs) >>= fun t => pure [(p1, u), (p2, v), (pv, t)]))
    (body : ∀ (cd : Value) (A : Around) (outer : List Env) (s : Shared) (H : Hp) (vs : List V) (Q : VK) (E : XK), Room k (A.deeper (envOfC ql (defScope st) s.heap.objs.size f cd)) → sp vs H Q E →
      ∃ t, PSs (cxOf CX P w K mg base N ql (defScope st) f cd A outer s H E) (defBody st) t ∧ t { nx := fun _ H' => Q .non H', rt := Q } (start N vs) H) :
    FnR P w K mg base CX (k + 1) f (spStar 2 sp) := by
  obtain ⟨oc, od, b, c, d, e, g, h, osl, rfl, lk, hcd⟩ := F.ex
  exact star_raw (qs := [p1, p2]) lk hcd S up (StX.bind_star2 (B := fun us => bindArgs (PySem.W.fnOf x ql (defArgs st) (defBody st) (defScope st) .none b c d e g h) ⟨us, []⟩) (h0 b c d e g h) (h1 b c d e g h)) (body g)
/-- t.m(e), t a tuple that is known as the object it is -/
def tTupM (r : V → List V → Hp → VK → Prop) (to : TE) (t : TA) : TE := fun σ H Q => to σ H fun x H1 => ∃ (p : Addr) (ob : Obj) (ys : List V), x = .ref p ∧ H1 p = some (.frz ob (.tup ys)) ∧ ob.cls = .type "tuple" ∧ ob.dict = none ∧ t σ H1 fun vs H2 => r x vs H2 Q
theorem pe_tupM {X : Cx} {nm : Str} {id : String} {r : V → List V → Hp → VK → Prop} {o e : Expr} {es : List Expr} {to : TE} {t : TA} {ap cp : Pos} (slot : Slot "tuple" nm id) (ty : typeOf (.builtin id) = pure (.type "method_descriptor")) (hm : MtR X id r) (ho : PE X o to) (ha : PA X (e :: es) t)
    (h1 : attributeBase o nm X.env (eval o X.env) = eval o X.env := by rfl)
    (h2 : ((backTo cp (starEach (e :: es) X.env)).all (fun x => !x.1) && (backToKw cp (keywordEach [] X.env)).all (fun x => x.1.isSome) && decide ((e :: es).length + ([] : List Keyword).length + (if ([] : List Keyword).isEmpty then 0 else 1) < 30)) = true := by rfl)
    (h3 : (ap.endLine == cp.line) = true := by rfl) (h4 : starEach (e :: es) X.env = (false, eval e X.env) :: starEach es X.env := by rfl) (h5 : (backTo cp (starEach es X.env)).any (·.1) = false := by rfl) :
    PE X (.Call (.Attribute o nm ap) (e :: es) [] cp) (tTupM r to t) := by
  refine ⟨fun pins s σ H Q I h => wpAny_Call_method_late h1 h2 h3 rfl (thn (ho.run pins s σ H _ I h) ?_)⟩
  rintro v s1 ⟨x, H1, I1, rx, p, ob, ys, rfl, hp, hcl, hd, q⟩
  cases (show v = Value.ref p from rx)
  obtain ⟨hg, _⟩ := (show ObjOk X.prog X.w H1 s1.heap p (.frz ob (.tup ys)) from I1.hok p _ hp)
  refine ⟨"tuple", id, PySem.F.plainAttrs_tuple, slot, ty, ⟨ob, hg, hcl⟩, fun a ea => ?_, ?_⟩
  · cases ea
    exact ⟨ob, hg, hd⟩
  have z := ha.run cp pins s1 σ H1 _ I1 q
  rw [h4] at z ⊢
  refine Calls.callWith_builtin (by show (false || (backTo cp (starEach es X.env)).any (·.1)) = false; rw [h5]; rfl) (Calls.evalArgs_plain (thn z ?_))
  rintro us s2 ⟨vs, H2, I2, rv, q2⟩
  exact hm pins s2 σ H2 (.ref p) vs (.ref p) us Q I2 rfl rv q2
/-- what is raised in a callee passes out of the def -/
theorem passX {X : Cx} {E : XK} (tk : Takes X (fun cls d _ H => E cls d H)) : Passes (L2.CX X.prog X.w) X E := passes_call tk fun _ _ _ _ h => h
end
end OO

namespace K06
open PySem PySem.Spec PyProof.Rows L2 TL GG OO
def topS (i : Nat) : Stmt := PySem.Challenge.pw_pulledout_k06_pullers_rows.main.body.getD i (.Pass ⟨0, 0, 0, 0⟩)
abbrev s_PullError : Stmt := topS 1
abbrev s_InvalidStep : Stmt := topS 2
abbrev s_InvalidNumber : Stmt := topS 3
abbrev s_is_name : Stmt := topS 6
abbrev s_is_integer : Stmt := topS 7
abbrev s_is_step : Stmt := topS 11
abbrev s_is_bare : Stmt := topS 12
abbrev s_is_named : Stmt := topS 13
abbrev s_is_word : Stmt := topS 14
abbrev s_check_steps : Stmt := topS 18
abbrev s_locked_behind : Stmt := topS 19
abbrev s_PullRow : Stmt := topS 21
abbrev s_checked : Stmt := topS 22
abbrev s_l_numbers : Stmt := topS 24
abbrev s_l_pool : Stmt := topS 25
abbrev s_l_draw : Stmt := topS 26
abbrev s_l_pick : Stmt := topS 27
abbrev s_l_wrong : Stmt := topS 28
abbrev s_l_heard : Stmt := topS 29
abbrev s_l_refused : Stmt := topS 30
abbrev s_l_right : Stmt := topS 31
abbrev s_law : Stmt := topS 32
abbrev sPR_init : Stmt := inClass s_PullRow 0
abbrev sPR_of : Stmt := inClass s_PullRow 1
abbrev sPR_parts : Stmt := inClass s_PullRow 2
abbrev sPR_len : Stmt := inClass s_PullRow 3
abbrev sPR_first : Stmt := inClass s_PullRow 8
abbrev sPR_lock : Stmt := inClass s_PullRow 9
abbrev sPR_behind : Stmt := inClass s_PullRow 10
abbrev sIS_init : Stmt := inClass s_InvalidStep 0
abbrev sIN_init : Stmt := inClass s_InvalidNumber 0
/-- built-ins by their names -/
structure Blt (K : PySem.W.Frag) (mg : Str → Option Value) : Prop where
  m_max : mg "max" = none
  m_range : mg "range" = none
  m_len : mg "len" = none
  m_int : mg "int" = none
  m_bool : mg "bool" = none
  m_isinstance : mg "isinstance" = none
  m_str : mg "str" = none
  m_all : mg "all" = none
  m_tuple : mg "tuple" = none
  m_list : mg "list" = none
  m_enumerate : mg "enumerate" = none
  m_repr : mg "repr" = none
section
variable {P : Program} {w : World} {K : PySem.W.Frag} {mg : Str → Option Value} {base : Heap}
def spNum (K : PySem.W.Frag) : Sp := fun vs H Q _ => ∃ (c s : Int) (a : Addr) (zs : List Int), vs = [.int c, .int s, .ref a] ∧ SqL K H a (zs.map V.int) ∧ (0 ≤ s ∧ s ≤ 100000) ∧ zs.length ≤ 1000 ∧ (∀ z ∈ zs, 0 < z ∧ z < 1000000) ∧
  ∀ (H' : Hp) (p : Addr) (ns : List Int), Same H H' → H p = none → H' p = some (.lst (ns.map V.int)) → ns.length = zs.length → Below zs ns → Q (.ref p) H'
theorem small_mod (x : Int) : (x % 2147483629).natAbs < 2 ^ 64 := by
  have h1 := Int.emod_nonneg x (show (2147483629 : Int) ≠ 0 by decide)
  have h2 := Int.emod_lt_of_pos x (show (0 : Int) < 2147483629 by decide)
  omega
theorem scNum : FnScope ["_law_cell", "_law_salt", "_law_sizes", "_law_whole", "_law_left", "_law_result", "_law_k", "_law_one"] ["_law_cell", "_law_salt", "_law_sizes"] (defScope s_l_numbers) := ⟨rfl, rfl, rfl, by decide +kernel, rfl, by decide +kernel, by decide +kernel⟩
theorem ok_num {f : Addr} {fd : FuncData} (F : Fun K "_law_numbers" "_law_numbers" s_l_numbers f fd) (mm : mg "max" = none) (mr : mg "range" = none) (ml : mg "len" = none) : FnOk P w K mg base CX0 1 f fd ["_law_cell", "_law_salt", "_law_sizes"] (spNum K) := by
  refine F.ok scNum (fun vs H Q E h => ?_) (fun cdv A outer s H vs Q E hr h => ?_)
  · obtain ⟨c, s, a, zs, rfl, _⟩ := h
    rfl
  · obtain ⟨c, sa, a, zs, rfl, hS, ⟨hs0, hs1⟩, hlen, hz, q⟩ := h
    refine ⟨_, (pss_cons (ps_set (i := 3) scNum.nd rfl (.inl rfl) (pe_callB (call_max2 rfl) (by rfl) mm (by decide +kernel) (pa_cons (pv 0) (pa_cons (pe_op op_sub (pe_un un_neg pe_int) (pv 0)) pa_nil)))) 
        (pss_cons (ps_set (i := 4) scNum.nd rfl (.inl rfl) (pv 3)) 
        (pss_cons (ps_set (i := 5) scNum.nd rfl (.inl rfl) (pe_lst pa_nil)) 
        (pss_cons (ps_for PassesOwn.never rfl (pi_range1 rfl mr (pa_cons (pe_callB call_len_seq (by rfl) ml PySem.boot_len (pa_cons (pv 2) pa_nil)) pa_nil)) (pg_name (i := 6) scNum.nd rfl (.inl rfl)) 
          (pss_one (ps_if (PW.pt (pw_and (pt_cmpR op_ge (pv 3) (pe_op op_pow pe_int pe_int) (nomark _)) (pw_and1 (pt_cmpR op_gt (pv 4) pe_int (nomark _))))) 
            (pss_cons (ps_expr (pe_bm PySem.F.plainAttrs_list PySem.F.slot_list_append PySem.F.type_list_append mt_append (pv 5) (pa_cons (pe_op op_mod (pv 4) (pe_ix ix_list (pv 2) (pv 6) (fun _ _ => rfl))) pa_nil))) 
            (pss_one (ps_set (i := 4) scNum.nd rfl (.inl rfl) (pe_op op_fdivN (pv 4) (pe_ix ix_list (pv 2) (pv 6) (fun _ _ => rfl)))))) 
            (pss_cons (ps_set (i := 7) scNum.nd rfl (.inl rfl) (pe_op op_mod (pe_op op_pow (pe_op op_add (pe_op op_add (pe_op op_mod (pv 3) pe_int) (pe_op op_mul pe_int (pv 1))) pe_int) pe_int) pe_int)) 
            (pss_cons (ps_set (i := 7) scNum.nd rfl (.inl rfl) (pe_op op_mod (pe_op op_mul (pe_op op_add (pv 7) (pe_op op_mul pe_int (pe_op op_add (pv 6) pe_int))) (pe_op op_add (pv 6) pe_int)) pe_int)) 
            (pss_cons (ps_set (i := 7) scNum.nd rfl (.inl rfl) (pe_op op_mod (pe_op op_mul (pe_op op_mod (pe_op op_pow (pv 7) pe_int) pe_int) pe_int) pe_int)) 
            (pss_one (ps_expr (pe_bm PySem.F.plainAttrs_list PySem.F.slot_list_append PySem.F.type_list_append mt_append (pv 5) (pa_cons (pe_op op_mod (pe_op op_fdivN (pv 7) pe_int) (pe_ix ix_list (pv 2) (pv 6) (fun _ _ => rfl))) pa_nil)))))))))) 
        (pss_one (ps_ret (pv 5))))))), ?_⟩
    -- whole = max(cell, -1 - cell); left = whole; result = []
    refine ⟨_, rfl, _, rfl, _, rfl, _, _, rfl, rfl, _, _, rfl, _, rfl, ?_⟩
    generalize hwh : (if -1 - c > c then -1 - c else c) = wh
    refine ⟨Nat.zero_le _, fun p hp => ?_⟩
    have s0 : Same H (upd H p (.lst [])) := same_upd hp
    refine ⟨_, rfl, a, zs.map V.int, rfl, .inl (s0.seq hS), _, rfl, by rw [List.length_map]; omega, by rw [List.length_map]; omega, for_range (lo := 0) (fun i σ H' => ∃ (left : Int) (ns : List Int) (y6 y7 : Option V), σ = [some (.int c), some (.int sa), some (.ref a), some (.int wh), some (.int left), some (.ref p), y6, y7] ∧ Same H H' ∧ H' p = some (.lst (ns.map V.int)) ∧ ns.length = i ∧ Below zs ns)
      ⟨wh, [], none, none, rfl, s0, upd_same, rfl, fun i z n _ h => by simp at h⟩ ?_ ?_⟩
    · rintro i σ H' hi ⟨left, ns, y6, y7, rfl, s1, hp1, hn, hb⟩
      have hi2 : i < zs.length := by
        rw [List.length_map] at hi
        omega
      have hzi : zs[i]? = some zs[i] := List.getElem?_eq_getElem hi2
      obtain ⟨hz0, hz1⟩ := hz zs[i] (List.getElem_mem hi2)
      have hat : atI (zs.map V.int) (0 + (i : Int)) = some (.int zs[i]) := by
        rw [Int.zero_add]
        exact atI_nat (by rw [List.getElem?_map, hzi]; rfl)
      have fin : ∀ (r : Int), 0 ≤ r → r < zs[i] → ns.length < sizeLine ∧ Same H (upd H' p (.lst (ns.map V.int ++ [V.int r]))) ∧ (upd H' p (.lst (ns.map V.int ++ [V.int r]))) p = some (.lst ((ns ++ [r]).map V.int)) ∧ (ns ++ [r]).length = i + 1 ∧ Below zs (ns ++ [r]) := fun r h0 h1 =>
        ⟨small1000 (by omega), same_st s1 hp, by rw [upd_same, List.map_append]; rfl, by rw [List.length_append, List.length_singleton, hn], below_snoc hb (by rw [hn]; exact hzi) h0 h1⟩
      refine ⟨_, rfl, _, _, rfl, rfl, ⟨by decide, by decide, by decide⟩, _, _, rfl, rfl, _, rfl, ite2 (fun _ => ⟨_, rfl, _, _, rfl, rfl, _, rfl, ite2 (fun _ => ?thn) (fun _ => ?els1)⟩) (fun _ => iteF ?els2)⟩
      case thn =>
        obtain ⟨f1, f2, f3, f4, f5⟩ := fin (left % zs[i]) (Int.emod_nonneg _ (by omega)) (Int.emod_lt_of_pos _ hz0)
        refine ⟨_, rfl, .inl ⟨rfl, _, .inl (.inl hp1)⟩, _, rfl, _, rfl, _, rfl, a, zs.map V.int, _, _, rfl, rfl, s1.seq hS, hat, _, _, rfl, rfl, hz0, p, _, _, rfl, rfl, hp1, (by rw [List.length_map]; exact f1), ?_⟩
        refine ⟨_, rfl, _, rfl, _, rfl, a, zs.map V.int, _, _, rfl, rfl, f2.seq hS, hat, _, _, rfl, rfl, ⟨by omega, by omega⟩, ?_⟩
        exact ⟨_, _, _, _, rfl, f2, f3, f4, f5⟩
      all_goals
        refine ⟨_, rfl, _, _, rfl, rfl, by show (0 : Int) < 2147483629; decide, _, rfl, _, _, rfl, rfl, .inl ⟨by decide, by decide⟩, _, _, rfl, rfl, _, _, rfl, rfl, _, _, rfl, rfl, ⟨by decide, by decide, ?b1⟩, _, _, rfl, rfl, by show (0 : Int) < 2147483647; decide, ?_⟩
        case b1 =>
          have h1 := Int.emod_nonneg wh (show (2147483629 : Int) ≠ 0 by decide)
          have h2 := Int.emod_lt_of_pos wh (show (0 : Int) < 2147483629 by decide)
          show (wh % 2147483629 + 7919 * sa + 1).natAbs < 2 ^ 64
          omega
        refine ⟨_, rfl, _, rfl, _, _, rfl, rfl, _, _, rfl, rfl, .inl ⟨by decide, by decide⟩, _, _, rfl, rfl, _, rfl, _, _, rfl, rfl, _, _, rfl, rfl, .inr ⟨?b2, ?b3⟩, _, _, rfl, rfl, by show (0 : Int) < 2147483629; decide, ?_⟩
        case b2 =>
          show -(2 ^ 64) < (0 + (i : Int)) + 3
          omega
        case b3 =>
          show (0 + (i : Int)) + 3 < 2 ^ 64
          omega
        refine ⟨_, rfl, _, _, rfl, rfl, ⟨by decide, by decide, small_mod _⟩, _, _, rfl, rfl, by show (0 : Int) < 2147483647; decide, _, _, rfl, rfl, .inr ⟨by decide, by decide⟩, _, _, rfl, rfl, by show (0 : Int) < 2147483629; decide, ?_⟩
        have fe := fun r : Int => fin (r % zs[i]) (Int.emod_nonneg _ (by omega)) (Int.emod_lt_of_pos _ hz0)
        refine ⟨_, rfl, .inl ⟨rfl, _, .inl (.inl hp1)⟩, _, rfl, _, _, rfl, rfl, ⟨by decide, by decide⟩, _, rfl, _, rfl, a, zs.map V.int, _, _, rfl, rfl, s1.seq hS, hat, _, _, rfl, rfl, hz0, p, _, _, rfl, rfl, hp1, (by rw [List.length_map]; exact (fe 0).1), ?_⟩
        exact ⟨_, _, _, _, rfl, (fe _).2.1, (fe _).2.2.1, (fe _).2.2.2.1, (fe _).2.2.2.2⟩
    · rintro σ H' ⟨left, ns, y6, y7, rfl, s1, hp1, hn, hb⟩
      exact ⟨_, rfl, q H' p ns s1 hp hp1 (by rw [hn, List.length_map]; omega) hb⟩
def spPool (K : PySem.W.Frag) : Sp := fun vs H Q _ => ∃ (c sa m : Int), vs = [.int c, .int sa, .int m] ∧ (0 ≤ sa ∧ sa ≤ 100000) ∧ (0 ≤ m ∧ m ≤ 1000) ∧ ∀ R H' p, Same H R → Rest p R H' → Same H H' → Q (.ref p) H'
def spDraw (K : PySem.W.Frag) : Sp := fun vs H Q _ => ∃ (p : Addr) (m : Int) (R : Hp), vs = [.ref p, .int m] ∧ 0 < m ∧ Rest p R H ∧ ∀ r H', 0 ≤ r → r < m → Go p R H R H' → Q (.int r) H'
def spPick (K : PySem.W.Frag) : Sp := fun vs H Q _ => ∃ (p a : Addr) (R : Hp) (xs : List V), vs = [.ref p, .ref a] ∧ SqL K R a xs ∧ 0 < xs.length ∧ Rest p R H ∧ ∀ x H', x ∈ xs → Go p R H R H' → Q x H'
theorem sc_l_pool : FnScope ["_law_cell", "_law_salt", "_law_many"] ["_law_cell", "_law_salt", "_law_many"] (defScope s_l_pool) := ⟨rfl, rfl, rfl, by decide +kernel, rfl, by decide +kernel, by decide +kernel⟩
theorem ok_l_pool {f : Addr} {fd : FuncData} (F : Fun K "_law_pool" "_law_pool" s_l_pool f fd) (T : Blt K mg) {f1 : Addr} {fd1 : FuncData} (F_l_numbers : Fun K "_law_numbers" "_law_numbers" s_l_numbers f1 fd1) (b_l_numbers : Binds K fd1 ["_law_cell", "_law_salt", "_law_sizes"] []) (g_l_numbers : mg "_law_numbers" = some (.ref f1)) (G_l_numbers : FnOk P w K mg base CX0 1 f1 fd1 ["_law_cell", "_law_salt", "_law_sizes"] (spNum K)) : FnOk P w K mg base CX0 2 f fd ["_law_cell", "_law_salt", "_law_many"] (spPool K) := by
  refine F.ok sc_l_pool (fun vs H Q E h => ?_) (fun cdv A outer s H vs Q E hr h => ?_)
  · obtain ⟨c, sa, m, rfl, _⟩ := h
    rfl
  · obtain ⟨c, sa, m, rfl, hsa, ⟨hm0, hm1⟩, q⟩ := h
    refine ⟨_, (pss_one (ps_ret (pe_lst (pa_cons (pe_call G_l_numbers hr (by rfl) g_l_numbers F_l_numbers.kp b_l_numbers .nil pass0 (pa_cons (pv 0) (pa_cons (pv 1) (pa_cons (pe_op op_rep (pe_lst (pa_cons pe_int pa_nil)) (pv 2)) pa_nil)))) (pa_cons pe_int pa_nil))))), ?_⟩
    have em : (m.toNat : Int) = m := by omega
    refine ⟨_, rfl, _, rfl, (by show 1 ≤ sizeLine; decide), fun l hl => ⟨_, rfl, l, m, [V.int 420], rfl, rfl, upd_same, by omega, by omega, ?z1, fun r hr => ?_⟩⟩
    case z1 =>
      show 1 * m.toNat ≤ sizeLine
      exact Nat.le_of_lt (small1000 (by omega))
    have el : (List.replicate m.toNat [V.int 420]).flatten = (List.replicate m.toNat (420 : Int)).map V.int := by
      generalize m.toNat = j
      induction j with
      | zero => rfl
      | succ j ih =>
        rw [List.replicate_succ, List.replicate_succ, List.flatten_cons, ih]
        rfl
    have s1 : Same H (upd (upd H l (.lst [V.int 420])) r (.lst (List.replicate m.toNat [V.int 420]).flatten)) := (same_upd hl).trans (same_upd hr)
    refine ⟨c, sa, r, List.replicate m.toNat 420, rfl, .inl (.inl (by rw [upd_same, el])), hsa, by rw [List.length_replicate]; omega, (fun z hz => by rw [(List.mem_replicate.mp hz).2]; decide), fun H3 d ds s9 hdn ed hdl hb => ?_⟩
    refine ⟨(by show 2 ≤ sizeLine; decide), fun p hp => ?_⟩
    have s3 : Same H H3 := s1.trans s9
    have hHd : H d = none := s1.free hdn
    have hpd : d ≠ p := fun e => by
      rw [e, hp] at ed
      cases ed
    refine q (upd H d (.lst (ds.map V.int))) _ p (same_upd hHd) ⟨fun b x e => ?_, ?_, d, ds, 0, upd_same, upd_same, by decide⟩ (s3.trans (same_upd hp))
    · by_cases h : b = d
      · rw [h, upd_same] at e
        rw [h, upd_ne hpd, ed, e]
      · rw [upd_ne h] at e
        exact (s3.trans (same_upd hp)) b x e
    · rw [upd_ne hpd.symm]
      exact s3.free hp
theorem sc_l_draw : FnScope ["_law_pool_here", "_law_many", "_law_at"] ["_law_pool_here", "_law_many"] (defScope s_l_draw) := ⟨rfl, rfl, rfl, by decide +kernel, rfl, by decide +kernel, by decide +kernel⟩
theorem ok_l_draw {f : Addr} {fd : FuncData} (F : Fun K "_law_draw" "_law_draw" s_l_draw f fd) (T : Blt K mg) : FnOk P w K mg base CX0 1 f fd ["_law_pool_here", "_law_many"] (spDraw K) := by
  refine F.ok sc_l_draw (fun vs H Q E h => ?_) (fun cdv A outer s H vs Q E hr h => ?_)
  · obtain ⟨p, m, R, rfl, _⟩ := h
    rfl
  · obtain ⟨p, m, R, rfl, hm, k, q⟩ := h
    refine ⟨_, (pss_cons (ps_set (i := 2) sc_l_draw.nd rfl (.inl rfl) (pe_ix ix_list (pv 0) pe_int (fun _ _ => rfl))) 
        (pss_cons (ps_asg (pe_op op_add (pv 2) pe_int) (pg_sub (pv 0) pe_int set_list)) 
        (pss_one (ps_ret (pe_ifExp (pt_cmpR op_lt (pv 2) (pe_callB call_len_seq (by rfl) T.m_len PySem.boot_len (pa_cons (pe_ix ix_list (pv 0) pe_int (fun _ _ => rfl)) pa_nil)) (nomark _)) (pe_op op_mod (pe_callTy call_int1 (by rfl) T.m_int (by decide +kernel) (pa_cons (pe_ix ix_seq (pe_ix ix_list (pv 0) pe_int (fun _ _ => rfl)) (pv 2) (fun _ _ => rfl)) pa_nil)) (pv 1)) pe_int))))), ?_⟩
    obtain ⟨s0, hRp, d, ns, n, hp, hd, hn⟩ := id k
    have hdp : d ≠ p := fun e => by
      rw [e, hRp] at hd
      cases hd
    have g : Go p R H R (upd H p (.lst [.ref d, .int (n + 1)])) := ⟨Same.refl _, ⟨same_st s0 hRp, hRp, d, ns, n + 1, upd_same, hd, by omega⟩, fun b hb o e => by rw [upd_ne hb]; exact e, fun _ _ _ h => h⟩
    have hd' : SqL K (upd H p (.lst [.ref d, .int (n + 1)])) d (ns.map V.int) := .inl (.inl (g.rest.1 _ _ hd))
    refine ⟨_, rfl, p, _, _, _, rfl, rfl, .inl (.inl hp), rfl, ?_⟩
    refine ⟨_, rfl, _, _, rfl, rfl, _, rfl, p, _, _, 1, rfl, rfl, hp, rfl, ?_⟩
    refine ⟨_, rfl, _, rfl, p, _, _, _, rfl, rfl, .inl (.inl upd_same), rfl, d, _, rfl, .inl hd', _, _, rfl, rfl, _, rfl, ite2 (fun h1 => ?_) (fun h1 => ?_)⟩
    · have h1 : n < ((ns.map V.int).length : Int) := of_decide_eq_true h1
      rw [List.length_map] at h1
      have hi : n.toNat < ns.length := by omega
      obtain ⟨v, hat, hv⟩ := at_int (xs := ns.map V.int) hn (by rw [List.length_map]; exact hi)
      obtain ⟨u, _, rfl⟩ := List.mem_map.mp hv
      refine ⟨_, rfl, p, _, _, _, rfl, rfl, .inl (.inl upd_same), rfl, _, rfl, .inl ⟨d, _, _, _, rfl, rfl, hd', hat, .inl ⟨_, rfl, _, rfl, _, _, rfl, rfl, hm, ?_⟩⟩⟩
      exact q _ _ (Int.emod_nonneg _ (by omega)) (Int.emod_lt_of_pos _ hm) g
    · exact q 0 _ (by decide) hm g
theorem sc_l_pick : FnScope ["_law_pool_here", "_law_some"] ["_law_pool_here", "_law_some"] (defScope s_l_pick) := ⟨rfl, rfl, rfl, by decide +kernel, rfl, by decide +kernel, by decide +kernel⟩
theorem ok_l_pick {f : Addr} {fd : FuncData} (F : Fun K "_law_pick" "_law_pick" s_l_pick f fd) (T : Blt K mg) {f1 : Addr} {fd1 : FuncData} (F_l_draw : Fun K "_law_draw" "_law_draw" s_l_draw f1 fd1) (b_l_draw : Binds K fd1 ["_law_pool_here", "_law_many"] []) (g_l_draw : mg "_law_draw" = some (.ref f1)) (G_l_draw : FnOk P w K mg base CX0 1 f1 fd1 ["_law_pool_here", "_law_many"] (spDraw K)) : FnOk P w K mg base CX0 2 f fd ["_law_pool_here", "_law_some"] (spPick K) := by
  refine F.ok sc_l_pick (fun vs H Q E h => ?_) (fun cdv A outer s H vs Q E hr h => ?_)
  · obtain ⟨p, a, R, xs, rfl, _⟩ := h
    rfl
  · obtain ⟨p, a, R, xs, rfl, hxs, hpos, k, q⟩ := h
    refine ⟨_, (pss_one (ps_ret (pe_ix ix_list (pv 1) (pe_call G_l_draw hr (by rfl) g_l_draw F_l_draw.kp b_l_draw .nil pass0 (pa_cons (pv 0) (pa_cons (pe_callB call_len_seq (by rfl) T.m_len PySem.boot_len (pa_cons (pv 1) pa_nil)) pa_nil))) (fun _ _ => rfl)))), ?_⟩
    refine ⟨_, rfl, _, rfl, _, rfl, a, xs, rfl, .inl (Same.seq k.1 hxs), p, _, R, rfl, by omega, k, fun r H' h0 h1 g => ?_⟩
    have hi : r.toNat < xs.length := by omega
    obtain ⟨v, hat, hv⟩ := at_int h0 hi
    exact ⟨a, xs, r, v, rfl, rfl, Same.seq g.rest.1 hxs, hat, q _ H' hv g⟩
end
def isName (z : Str) : Bool := decide (1 ≤ (z.length : Int)) && decide ((z.length : Int) ≤ 8) && z.cps.toList.all letB
def isNameP : PyData → Bool
  | .str z => isName z
  | _ => false
def isWordP (ws : List Str) : PyData → Bool
  | .str z => ws.any (· == z)
  | _ => false
def isBareP (ws : List Str) : PyData → Bool
  | .tuple [d] => isWordP ws d
  | _ => false
def isNamedP (ws : List Str) : PyData → Bool
  | .tuple [d, e] => isWordP ws d && isNameP e
  | _ => false
def headP (ws : List Str) : PyData → Bool
  | .tuple (d :: _) => isWordP ws d
  | _ => false
abbrev wOpen : List Str := ["look", "hold", "try"]
abbrev wBare : List Str := ["let", "enter", "leave", "touch", "use", "lock", "unlock"]
abbrev wNamed : List Str := ["start"]
abbrev wAsk : List Str := ["ask"]
abbrev wSteps : List Str := ["out", "wait", "empty", "down", "let", "lock", "unlock"]
abbrev wNSteps : List Str := ["mark", "bar", "forget", "idle"]
abbrev wUItems : List Str := ["hold", "enter", "leave", "ask", "use", "start"]
abbrev wUSteps : List Str := ["mark", "wait", "empty", "bar", "forget", "idle", "let"]
def isWayItemP (d : PyData) : Bool := isBareP wBare d || isNamedP wNamed d
def isWayOutP : PyData → Bool
  | .tuple ds => decide (ds.length ≤ 4) && ds.all isWayItemP
  | _ => false
def isAskP : PyData → Bool
  | .tuple [w, m, o] => isWordP wAsk w && (isNameP m && isWayOutP o)
  | _ => false
def isItemP (d : PyData) : Bool := isBareP wOpen d || (isWayItemP d || isAskP d)
def isStepP (d : PyData) : Bool := isBareP wSteps d || isNamedP wNSteps d
def spChk (K : PySem.W.Frag) (g : PyData → Bool) : Sp := fun vs H Q _ => ∃ (x : V) (d : PyData), vs = [x] ∧ Val K H x d ∧ ∀ H', Same H H' → Q (.bl (g d)) H'
def spChkW (K : PySem.W.Frag) (g : List Str → PyData → Bool) : Sp := fun vs H Q _ => ∃ (x : V) (d : PyData) (a : Addr) (ws : List Str), vs = [x, .ref a] ∧ Val K H x d ∧ SqT K H a (ws.map V.str) ∧ ∀ H', Same H H' → Q (.bl (g ws d)) H'
abbrev wOnce : List Str := ["out", "down", "let", "mark"]
/-- what the module's names hold -/
structure Txt (K : PySem.W.Frag) (mg : Str → Option Value) (lt0 lt1 : Tok) (t4 t5 t6 : Addr) : Prop extends Blt K mg where
  c_LONGEST_NAME : mg "_LONGEST_NAME" = some (.int 8 lt0)
  c_MOST_STEPS : mg "_MOST_STEPS" = some (.int 9 lt1)
  c_BARE_STEPS : mg "_BARE_STEPS" = some (.ref t4)
  c_NAMED_STEPS : mg "_NAMED_STEPS" = some (.ref t5)
  c_ONCE : mg "_ONCE" = some (.ref t6)
  w4 : ∀ H, SqT K H t4 (wSteps.map V.str)
  w5 : ∀ H, SqT K H t5 (wNSteps.map V.str)
  w6 : ∀ H, SqT K H t6 (wOnce.map V.str)
section
variable {P : Program} {w : World} {K : PySem.W.Frag} {mg : Str → Option Value} {base : Heap} {lt0 lt1 : Tok} {t4 t5 t6 : Addr}
theorem snoc_let {z : Str} {i c : Nat} (hc : z.cps[i]? = some c) : ((z.cps.toList.take (i + 1)).map letB).map V.bl = ((z.cps.toList.take i).map letB).map V.bl ++ [V.bl (letB c)] := by
  have h : z.cps.toList[i]? = some c := by rw [Array.getElem?_toList]; exact hc
  rw [List.take_add_one, h, List.map_append, List.map_append]
  rfl
theorem sc_is_name : FnScope ["value", "letter"] ["value"] (defScope s_is_name) := ⟨rfl, rfl, rfl, by decide +kernel, rfl, by decide +kernel, by decide +kernel⟩
theorem ok_is_name {f : Addr} {fd : FuncData} (F : Fun K "is_name" "is_name" s_is_name f fd) (T : Txt K mg lt0 lt1 t4 t5 t6) : FnOk P w K mg base CX0 1 f fd ["value"] (spChk K isNameP) := by
  refine F.ok sc_is_name (fun vs H Q E h => ?_) (fun cdv A outer s H vs Q E hr h => ?_)
  · obtain ⟨x, d, rfl, _⟩ := h
    rfl
  · obtain ⟨x, d, rfl, hv, q⟩ := h
    refine ⟨_, (pss_cons (ps_if (PW.pt (pw_or (pt_not (pt_val (pe_callB call_isi (by rfl) T.m_isinstance (by decide +kernel) (pa_cons (pv 0) (pa_cons (pe_bltn (v := .ty "str") (u := .type "str") (by rfl) T.m_str (by decide +kernel) rfl) pa_nil))))) (pw_or1 (pt_not (pt_chain op_le op_le pe_int (pe_callB call_len_str (by rfl) T.m_len PySem.boot_len (pa_cons (pv 0) pa_nil)) (pe_glob (v := .int 8) rfl T.c_LONGEST_NAME ⟨_, rfl⟩)))))) 
          (pss_one (ps_ret pe_bl)) pss_nil) 
        (pss_one (ps_ret (pe_callB (cr_all rfl) (by rfl) T.m_all (by decide +kernel) (pa_cons (pe_lc (own := [("letter", 1)]) (g := gName 1) rfl sc_is_name.nd (pi_str (pv 0)) (blkOk_by (N := ["value", "letter"]) (sc := defScope s_is_name) (by decide +kernel)) (fun _ _ _ _ _ => pg_name (i := 1) sc_is_name.nd rfl (.inl rfl)) (fun _ _ _ _ _ => pts_nil) (fun _ _ _ _ _ => (pe_chain op_le_str op_le_str pe_str (pv 1) pe_str))) pa_nil))))), ?_⟩
    cases hd : isStr d with
    | false =>
      have e : isNameP d = false := by cases d <;> first | rfl | cases hd
      have := q H (Same.refl H)
      rw [e] at this
      exact ⟨_, rfl, _, _, _, _, false, rfl, .ty "str", hv.ty, hd ▸ isi_str d, _, rfl, iteT (iteT this)⟩
    | true =>
      obtain ⟨z, rfl⟩ : ∃ z, d = .str z := by cases d <;> first | exact ⟨_, rfl⟩ | cases hd
      obtain ⟨rfl, hz, _⟩ := hv.str
      have q : ∀ H', Same H H' → Q (.bl (isName z)) H' := q
      refine ⟨_, rfl, _, _, _, _, true, rfl, .ty "str", .base (.str z), kit_ty (by decide +kernel), _, rfl, iteF ⟨_, rfl, z, rfl, Nat.le_of_lt (small1000 hz), _, _, rfl, rfl, _, rfl, ite2 (fun h1 => ⟨_, _, rfl, rfl, _, rfl, ite2 (fun h2 => ?f2) (fun h2 => ?go)⟩) (fun h1 => ⟨_, rfl, iteT ?f1⟩)⟩⟩
      case f1 =>
        have e : isName z = false := by
          unfold isName
          simp only [Bool.not_eq_true] at h1
          rw [h1]
          rfl
        have := q H (Same.refl H)
        rw [e] at this
        exact this
      case f2 =>
        have h2' : decide ((z.length : Int) ≤ 8) = false := by simpa using h2
        have e : isName z = false := by
          unfold isName
          rw [h2', Bool.and_false]
          rfl
        have := q H (Same.refl H)
        rw [e] at this
        exact this
      case go =>
        have h2' : decide ((z.length : Int) ≤ 8) = true := by simpa using h2
        refine ⟨_, rfl, z, rfl, fun D hD => lc_it walk_str (fun i H' => Same H H' ∧ H' D = some (.lst (((z.cps.toList.take i).map letB).map V.bl))) ⟨same_upd hD, upd_same⟩ (fun _ _ _ _ => trivial) ?_ ?_⟩
        · rintro i x H1 H2 hi ⟨s1, h1⟩ ⟨rfl, c, hc, rfl⟩
          have hlt : (((z.cps.toList.take i).map letB).map V.bl).length < sizeLine := by
            rw [List.length_map, List.length_map, List.length_take]
            exact Nat.lt_of_le_of_lt (Nat.min_le_right _ _) (small1000 hz)
          have fin : ∀ r : Bool, r = letB c → ∃ acc, H2 D = some (.lst acc) ∧ acc.length < sizeLine ∧ Same H (upd H2 D (.lst (acc ++ [V.bl r]))) ∧ upd H2 D (.lst (acc ++ [V.bl r])) D = some (.lst (((z.cps.toList.take (i + 1)).map letB).map V.bl)) := fun r hr =>
            ⟨_, h1, hlt, same_st s1 hD, by rw [upd_same, snoc_let hc, hr]⟩
          refine ⟨rfl, yes_then ?_⟩
          refine ⟨_, rfl, _, _, rfl, rfl, _, rfl, ite2 (fun g1 => ⟨_, _, rfl, rfl, fin _ ?_⟩) (fun g1 => fin _ ?_)⟩
          · show (!decide ([122] < [c])) = letB c
            have g1' : (!decide ([c] < [97])) = true := g1
            unfold letB
            rw [g1', Bool.true_and]
          · have g1' : (!decide ([c] < [97])) = false := by
              cases e : (!decide ([c] < [97])) with
              | true => exact absurd e g1
              | false => rfl
            unfold letB
            rw [g1', Bool.false_and]
        · rintro H1 ⟨s1, h1⟩
          refine ⟨D, z.cps.toList.map letB, rfl, .inl (.inl (by rw [h1, List.take_of_length_le (Nat.le_of_eq (Array.length_toList ..))])), ?_⟩
          have e : (z.cps.toList.map letB).all id = isName z := by
            unfold isName
            have h1' : decide (1 ≤ (z.length : Int)) = true := by assumption
            rw [h1', h2', List.all_map]
            rfl
          rw [e]
          exact q H1 s1
theorem sc_is_word : FnScope ["value", "words"] ["value", "words"] (defScope s_is_word) := ⟨rfl, rfl, rfl, by decide +kernel, rfl, by decide +kernel, by decide +kernel⟩
theorem ok_is_word {f : Addr} {fd : FuncData} (F : Fun K "_is_word" "_is_word" s_is_word f fd) (T : Txt K mg lt0 lt1 t4 t5 t6) : FnOk P w K mg base CX0 1 f fd ["value", "words"] (spChkW K isWordP) := by
  refine F.ok sc_is_word (fun vs H Q E h => ?_) (fun cdv A outer s H vs Q E hr h => ?_)
  · obtain ⟨x, d, a, ws, rfl, _⟩ := h
    rfl
  · obtain ⟨x, d, a, ws, rfl, hv, hw, q⟩ := h
    refine ⟨_, (pss_one (ps_ret (pe_and (pe_callB call_isi (by rfl) T.m_isinstance (by decide +kernel) (pa_cons (pv 0) (pa_cons (pe_bltn (v := .ty "str") (u := .type "str") (by rfl) T.m_str (by decide +kernel) rfl) pa_nil))) (pe_one (pe_cmpR op_in_seq (pv 0) (pv 1) (by rfl)))))), ?_⟩
    refine ⟨_, rfl, _, _, _, _, _, rfl, .ty "str", hv.ty, isi_str d, _, rfl, ite2 (fun hd => ?_) (fun hd => ?_)⟩
    · obtain ⟨z, rfl⟩ : ∃ z, d = .str z := by cases d <;> first | exact ⟨_, rfl⟩ | cases hd
      obtain ⟨rfl, hz, _⟩ := hv.str
      refine ⟨_, rfl, _, rfl, a, _, rfl, .inr hw, rfl, flat_words ws, ?_⟩
      have := q H (Same.refl H)
      show Q (.bl (inV (.str z) (ws.map V.str))) H
      rw [inV_words]
      exact this
    · have e : isWordP ws d = false := by cases d <;> first | rfl | exact absurd rfl hd
      have := q H (Same.refl H)
      rw [e] at this
      exact this
theorem sc_is_bare : FnScope ["value", "words"] ["value", "words"] (defScope s_is_bare) := ⟨rfl, rfl, rfl, by decide +kernel, rfl, by decide +kernel, by decide +kernel⟩
theorem ok_is_bare {f : Addr} {fd : FuncData} (F : Fun K "_is_bare" "_is_bare" s_is_bare f fd) (T : Txt K mg lt0 lt1 t4 t5 t6) {f1 : Addr} {fd1 : FuncData} (F_is_word : Fun K "_is_word" "_is_word" s_is_word f1 fd1) (b_is_word : Binds K fd1 ["value", "words"] []) (g_is_word : mg "_is_word" = some (.ref f1)) (G_is_word : FnOk P w K mg base CX0 1 f1 fd1 ["value", "words"] (spChkW K isWordP)) : FnOk P w K mg base CX0 2 f fd ["value", "words"] (spChkW K isBareP) := by
  refine F.ok sc_is_bare (fun vs H Q E h => ?_) (fun cdv A outer s H vs Q E hr h => ?_)
  · obtain ⟨x, d, a, ws, rfl, _⟩ := h
    rfl
  · obtain ⟨x, d, a, ws, rfl, hv, hw, q⟩ := h
    refine ⟨_, (pss_one (ps_ret (pe_and (pe_callB call_isi (by rfl) T.m_isinstance (by decide +kernel) (pa_cons (pv 0) (pa_cons (pe_bltn (v := .ty "tuple") (u := .type "tuple") (by rfl) T.m_tuple (by decide +kernel) rfl) pa_nil))) (pe_and (pe_cmpR op_eq (pe_callB call_len_seq (by rfl) T.m_len PySem.boot_len (pa_cons (pv 0) pa_nil)) pe_int (nomark _)) (pe_one (pe_call G_is_word hr (by rfl) g_is_word F_is_word.kp b_is_word .nil pass0 (pa_cons (pe_ix ix_tup (pv 0) pe_int (fun _ _ => rfl)) (pa_cons (pv 1) pa_nil)))))))), ?_⟩
    refine ⟨_, rfl, _, _, _, _, _, rfl, .ty "tuple", hv.ty, isi_tup d, _, rfl, ite2 (fun hd => ?_) (fun hd => ?_)⟩
    · obtain ⟨ds, rfl⟩ : ∃ ds, d = .tuple ds := by cases d <;> first | exact ⟨_, rfl⟩ | cases hd
      obtain ⟨b, xs, rfl, hs, ha, hl, h1000, hget⟩ := hv.tup
      refine ⟨_, rfl, b, xs, rfl, .inr hs, rfl, _, rfl, ite2 (fun h1 => ?_) (fun h1 => ?_)⟩
      · have h1 : xs.length = 1 := by
          have := V.int.inj (of_decide_eq_true h1)
          omega
        obtain ⟨e, rfl⟩ : ∃ e, ds = [e] := List.length_eq_one_iff.mp (by omega)
        obtain ⟨v, hx, hve⟩ := hget 0 e rfl
        exact ⟨_, rfl, b, xs, _, _, rfl, rfl, hs, atI_nat hx, _, rfl, v, e, a, ws, rfl, hve, hw, fun H' s' => q H' s'⟩
      · have e : isBareP ws (.tuple ds) = false := by
          have h1 : xs.length ≠ 1 := fun z => h1 (decide_eq_true (by rw [z]; rfl))
          match ds, hl with
          | [], _ => rfl
          | [_], hl => exact absurd hl h1
          | _ :: _ :: _, _ => rfl
        have := q H (Same.refl H)
        rw [e] at this
        exact this
    · have e : isBareP ws d = false := by cases d <;> first | rfl | exact absurd rfl hd
      have := q H (Same.refl H)
      rw [e] at this
      exact this
theorem sc_is_named : FnScope ["value", "words"] ["value", "words"] (defScope s_is_named) := ⟨rfl, rfl, rfl, by decide +kernel, rfl, by decide +kernel, by decide +kernel⟩
theorem ok_is_named {f : Addr} {fd : FuncData} (F : Fun K "_is_named" "_is_named" s_is_named f fd) (T : Txt K mg lt0 lt1 t4 t5 t6) {f1 : Addr} {fd1 : FuncData} (F_is_word : Fun K "_is_word" "_is_word" s_is_word f1 fd1) (b_is_word : Binds K fd1 ["value", "words"] []) (g_is_word : mg "_is_word" = some (.ref f1)) (G_is_word : FnOk P w K mg base CX0 1 f1 fd1 ["value", "words"] (spChkW K isWordP)) {f2 : Addr} {fd2 : FuncData} (F_is_name : Fun K "is_name" "is_name" s_is_name f2 fd2) (b_is_name : Binds K fd2 ["value"] []) (g_is_name : mg "is_name" = some (.ref f2)) (G_is_name : FnOk P w K mg base CX0 1 f2 fd2 ["value"] (spChk K isNameP)) : FnOk P w K mg base CX0 2 f fd ["value", "words"] (spChkW K isNamedP) := by
  refine F.ok sc_is_named (fun vs H Q E h => ?_) (fun cdv A outer s H vs Q E hr h => ?_)
  · obtain ⟨x, d, a, ws, rfl, _⟩ := h
    rfl
  · obtain ⟨x, d, a, ws, rfl, hv, hw, q⟩ := h
    refine ⟨_, (pss_cons (ps_if (PW.pt (pw_or (pt_not (pt_val (pe_callB call_isi (by rfl) T.m_isinstance (by decide +kernel) (pa_cons (pv 0) (pa_cons (pe_bltn (v := .ty "tuple") (u := .type "tuple") (by rfl) T.m_tuple (by decide +kernel) rfl) pa_nil))))) (pw_or1 (pt_cmpR op_ne (pe_callB call_len_seq (by rfl) T.m_len PySem.boot_len (pa_cons (pv 0) pa_nil)) pe_int (nomark _))))) 
          (pss_one (ps_ret pe_bl)) pss_nil) 
        (pss_one (ps_ret (pe_and (pe_call G_is_word hr (by rfl) g_is_word F_is_word.kp b_is_word .nil pass0 (pa_cons (pe_ix ix_tup (pv 0) pe_int (fun _ _ => rfl)) (pa_cons (pv 1) pa_nil))) (pe_one (pe_call G_is_name hr (by rfl) g_is_name F_is_name.kp b_is_name .nil pass0 (pa_cons (pe_ix ix_tup (pv 0) pe_int (fun _ _ => rfl)) pa_nil))))))), ?_⟩
    cases hd : isTup d with
    | false =>
      have e : isNamedP ws d = false := by cases d <;> first | rfl | cases hd
      have := q H (Same.refl H)
      rw [e] at this
      exact ⟨_, rfl, _, _, _, _, false, rfl, .ty "tuple", hv.ty, hd ▸ isi_tup d, _, rfl, iteT (iteT this)⟩
    | true =>
      obtain ⟨ds, rfl⟩ : ∃ ds, d = .tuple ds := by cases d <;> first | exact ⟨_, rfl⟩ | cases hd
      obtain ⟨b, xs, rfl, hs, ha, hl, h1000, hget⟩ := hv.tup
      refine ⟨_, rfl, _, _, _, _, true, rfl, .ty "tuple", hv.ty, isi_tup _, _, rfl, iteF ⟨_, rfl, b, xs, rfl, .inr hs, rfl, _, rfl, ite2 (fun h1 => ?_) (fun h1 => ?_)⟩⟩
      · have e : isNamedP ws (.tuple ds) = false := by
          have h1 : xs.length ≠ 2 := fun z => by
            rw [z] at h1
            exact absurd h1 (by decide)
          match ds, hl with
          | [], _ => rfl
          | [_], _ => rfl
          | [_, _], hl => exact absurd hl h1
          | _ :: _ :: _ :: _, _ => rfl
        have := q H (Same.refl H)
        rw [e] at this
        exact this
      · have h1 : xs.length = 2 := by
          by_cases z : xs.length = 2
          · exact z
          · exfalso
            refine h1 ?_
            show (!decide (V.int (xs.length : Int) = V.int 2)) = true
            rw [decide_eq_false (fun k => z (by have := V.int.inj k; omega))]
            rfl
        obtain ⟨e, g, rfl⟩ : ∃ e g, ds = [e, g] := by
          match ds, hl with
          | [e, g], _ => exact ⟨e, g, rfl⟩
          | [], hl => rw [h1] at hl; cases hl
          | [_], hl => rw [h1] at hl; cases hl
          | _ :: _ :: _ :: _, hl => rw [h1] at hl; cases hl
        obtain ⟨v, hx, hve⟩ := hget 0 e rfl
        obtain ⟨v2, hx2, hve2⟩ := hget 1 g rfl
        refine ⟨_, rfl, b, xs, _, _, rfl, rfl, hs, atI_nat hx, _, rfl, v, e, a, ws, rfl, hve, hw, fun H' s' => ⟨_, rfl, ite2 (fun h2 => ?_) (fun h2 => ?_)⟩⟩
        · refine ⟨_, rfl, b, xs, _, _, rfl, rfl, Same.seqT s' hs, atI_nat hx2, v2, g, rfl, hve2.same s', fun H'' s'' => ?_⟩
          have := q H'' (s'.trans s'')
          have e : isNamedP ws (.tuple [e, g]) = isNameP g := by
            show (isWordP ws e && isNameP g) = _
            rw [h2, Bool.true_and]
          rw [e] at this
          exact this
        · have := q H' s'
          have e : isNamedP ws (.tuple [e, g]) = false := by
            show (isWordP ws e && isNameP g) = _
            rw [(by simpa using h2 : isWordP ws e = false), Bool.false_and]
          rw [e] at this
          exact this
theorem bf {b : Bool} (h : ¬ b = true) : b = false := by
  cases b with
  | true => exact absurd rfl h
  | false => rfl
theorem sc_is_step : FnScope ["value"] ["value"] (defScope s_is_step) := ⟨rfl, rfl, rfl, by decide +kernel, rfl, by decide +kernel, by decide +kernel⟩
theorem ok_is_step {f : Addr} {fd : FuncData} (F : Fun K "is_step" "is_step" s_is_step f fd) (T : Txt K mg lt0 lt1 t4 t5 t6) {f1 : Addr} {fd1 : FuncData} (F_is_bare : Fun K "_is_bare" "_is_bare" s_is_bare f1 fd1) (b_is_bare : Binds K fd1 ["value", "words"] []) (g_is_bare : mg "_is_bare" = some (.ref f1)) (G_is_bare : FnOk P w K mg base CX0 2 f1 fd1 ["value", "words"] (spChkW K isBareP)) {f2 : Addr} {fd2 : FuncData} (F_is_named : Fun K "_is_named" "_is_named" s_is_named f2 fd2) (b_is_named : Binds K fd2 ["value", "words"] []) (g_is_named : mg "_is_named" = some (.ref f2)) (G_is_named : FnOk P w K mg base CX0 2 f2 fd2 ["value", "words"] (spChkW K isNamedP)) : FnOk P w K mg base CX0 3 f fd ["value"] (spChk K isStepP) := by
  refine F.ok sc_is_step (fun vs H Q E h => ?_) (fun cdv A outer s H vs Q E hr h => ?_)
  · obtain ⟨x, d, rfl, _⟩ := h
    rfl
  · obtain ⟨x, d, rfl, hv, q⟩ := h
    refine ⟨_, (pss_one (ps_ret (pe_or (pe_call G_is_bare hr (by rfl) g_is_bare F_is_bare.kp b_is_bare .nil pass0 (pa_cons (pv 0) (pa_cons (pe_glob (v := .ref t4) rfl T.c_BARE_STEPS rfl) pa_nil))) (pe_one (pe_call G_is_named hr (by rfl) g_is_named F_is_named.kp b_is_named .nil pass0 (pa_cons (pv 0) (pa_cons (pe_glob (v := .ref t5) rfl T.c_NAMED_STEPS rfl) pa_nil))))))), ?_⟩
    refine ⟨_, rfl, _, d, t4, wSteps, rfl, hv, T.w4 _, fun H' s' => ⟨_, rfl, ite2 (fun h1 => ?_) (fun h1 => ⟨_, rfl, _, d, t5, wNSteps, rfl, hv.same s', T.w5 _, fun H'' s'' => ?_⟩)⟩⟩
    · have := q H' s'
      rw [(by unfold isStepP; rw [h1]; rfl : isStepP d = true)] at this
      exact this
    · have := q H'' (s'.trans s'')
      rw [(by unfold isStepP; rw [bf h1, Bool.false_or] : isStepP d = isNamedP wNSteps d)] at this
      exact this
theorem word_str {ws : List Str} {d : PyData} (h : isWordP ws d = true) : ∃ z, d = .str z := by
  cases d <;> first | exact ⟨_, rfl⟩ | cases h
theorem bare_head {ws : List Str} {d : PyData} (h : isBareP ws d = true) : ∃ z r, d = .tuple (.str z :: r) := by
  match d, h with
  | .tuple [e], h =>
    obtain ⟨z, rfl⟩ := word_str (ws := ws) (d := e) h
    exact ⟨z, [], rfl⟩
theorem named_head {ws : List Str} {d : PyData} (h : isNamedP ws d = true) : ∃ z r, d = .tuple (.str z :: r) := by
  match d, h with
  | .tuple [e, g], h =>
    obtain ⟨z, rfl⟩ := word_str (ws := ws) (d := e) (Bool.and_eq_true_iff.mp h).1
    exact ⟨z, [g], rfl⟩
theorem step_head {d : PyData} (h : isStepP d = true) : ∃ z r, d = .tuple (.str z :: r) := by
  unfold isStepP at h
  rcases Bool.or_eq_true_iff.mp h with h | h
  · exact bare_head h
  · exact named_head h
def isInt (n lo hi : Int) : Bool := decide (lo ≤ n) && decide (n ≤ hi)
def spIsInt (K : PySem.W.Frag) : Sp := fun vs H Q _ => ∃ (x : V) (lo hi : Int), vs = [x, .int lo, .int hi] ∧ ((∃ n : Int, x = .int n ∧ Q (.bl (isInt n lo hi)) H) ∨
  (∃ T : String, TyX K H x (.type T) ∧ (kitB T "int" = some false ∨ (kitB T "int" = some true ∧ kitB T "bool" = some true)) ∧ Q (.bl false) H))
theorem sc_is_integer : FnScope ["value", "lowest", "highest"] ["value", "lowest", "highest"] (defScope s_is_integer) := ⟨rfl, rfl, rfl, by decide +kernel, rfl, by decide +kernel, by decide +kernel⟩
theorem ok_is_int {f : Addr} {fd : FuncData} (F : Fun K "is_integer" "is_integer" s_is_integer f fd) (T : Txt K mg lt0 lt1 t4 t5 t6) : FnOk P w K mg base CX0 1 f fd ["value", "lowest", "highest"] (spIsInt K) := by
  refine F.ok sc_is_integer (fun vs H Q E h => ?_) (fun cdv A outer s H vs Q E hr h => ?_)
  · obtain ⟨x, lo, hi, rfl, _⟩ := h
    rfl
  · obtain ⟨x, lo, hi, rfl, h⟩ := h
    refine ⟨_, (pss_cons (ps_if (PW.pt (pw_or (pt_not (pt_val (pe_callB call_isi (by rfl) T.m_isinstance (by decide +kernel) (pa_cons (pv 0) (pa_cons (pe_bltn (v := .ty "int") (u := .type "int") (by rfl) T.m_int (by decide +kernel) rfl) pa_nil))))) (pw_or1 (pt_val (pe_callB call_isi (by rfl) T.m_isinstance (by decide +kernel) (pa_cons (pv 0) (pa_cons (pe_bltn (v := .ty "bool") (u := .type "bool") (by rfl) T.m_bool (by decide +kernel) rfl) pa_nil))))))) 
      (pss_one (ps_ret pe_bl)) pss_nil) 
    (pss_one (ps_ret (pe_chain op_le op_le (pv 1) (pv 0) (pv 2))))), ?_⟩
    rcases h with ⟨n, rfl, q⟩ | ⟨t, hx, ht, q⟩
    · refine ⟨_, rfl, _, _, _, _, true, rfl, .ty "int", .base (.int n), kit_ty (by decide +kernel), _, rfl, iteF ⟨_, rfl, _, _, _, _, false, rfl, .ty "bool", .base (.int n), kit_ty (by decide +kernel), _, rfl, iteF ?_⟩⟩
      refine ⟨_, rfl, _, rfl, _, _, rfl, rfl, _, rfl, ite2 (fun h1 => ⟨_, rfl, _, _, rfl, rfl, ?_⟩) (fun h1 => ?_)⟩
      · have e : isInt n lo hi = decide (n ≤ hi) := by
          have h1' : decide (lo ≤ n) = true := h1
          unfold isInt
          rw [h1', Bool.true_and]
        rw [e] at q
        exact q
      · have e : isInt n lo hi = false := by
          have h1' : decide (lo ≤ n) = false := by simpa using h1
          unfold isInt
          rw [h1', Bool.false_and]
        rw [e] at q
        exact q
    · rcases ht with ht | ⟨ht, hb⟩
      · exact ⟨_, rfl, _, _, _, _, false, rfl, .ty "int", hx, kit_ty ht, _, rfl, iteT (iteT q)⟩
      · exact ⟨_, rfl, _, _, _, _, true, rfl, .ty "int", hx, kit_ty ht, _, rfl, iteF ⟨_, rfl, _, _, _, _, true, rfl, .ty "bool", hx, kit_ty hb, _, rfl, iteT q⟩⟩
end
end K06

namespace K06
open PySem PySem.Spec PyProof.Rows L2 TL GG OO
/-! ### what the rules tell of steps -/
abbrev isW (d : PyData) (z : Str) : Bool := decide (V.str (headW d) = V.str z)
def lkB (b : Bool) (d : PyData) : Bool := isW d "lock" || (b && !isW d "unlock")
def lkAt (ds : List PyData) (i : Nat) : Bool := (ds.take i).foldl lkB false
def lks (ds : List PyData) (n : Nat) : List Bool := (List.range n).map (lkAt ds)
theorem lkAt_zero (ds : List PyData) : lkAt ds 0 = false := rfl
theorem lkAt_succ {ds : List PyData} {i : Nat} {d : PyData} (h : ds[i]? = some d) : lkAt ds (i + 1) = lkB (lkAt ds i) d := by
  unfold lkAt
  rw [List.take_add_one, h, List.foldl_append]
  rfl
theorem lks_succ (ds : List PyData) (n : Nat) : lks ds (n + 1) = lks ds n ++ [lkAt ds n] := by
  unfold lks
  rw [List.range_succ, List.map_append]
  rfl
theorem lks_len (ds : List PyData) (n : Nat) : (lks ds n).length = n := by
  unfold lks
  rw [List.length_map, List.length_range]
theorem lks_get {ds : List PyData} {n i : Nat} (h : i < n) : (lks ds n)[i]? = some (lkAt ds i) := by
  unfold lks
  rw [List.getElem?_map, List.getElem?_range h]
  rfl
def onceB (ds : List PyData) (i : Nat) (d : PyData) : Bool := inV (.str (headW d)) (wOnce.map V.str) && (cutG ds none (some (i : Int))).any fun z => PyData.eqv z d
def lockB (ds : List PyData) (i : Nat) (d : PyData) : Bool := inV (.str (headW d)) [.str "lock", .str "unlock"] && decide (V.bl (lkAt ds i) = V.bl (isW d "lock"))
def badAt (ds : List PyData) (i : Nat) : Bool := match ds[i]? with
  | some d => onceB ds i d || lockB ds i d
  | none => false
def stepBad (ds : List PyData) (i : Nat) : Bool := match ds[i]? with
  | some d => !isStepP d
  | none => false
/-- what a row of steps is refused with -/
def wrongV (ds : List PyData) : Option V := match (List.range ds.length).find? (stepBad ds) with
  | some i => some (.int i)
  | none => if 9 < ds.length then some .non else match (List.range ds.length).find? (badAt ds) with
    | some i => some (.int i)
    | none => none
theorem find_at {p : Nat → Bool} {n i : Nat} (h : ∀ j < i, p j = false) (hi : i < n) (hp : p i = true) : (List.range n).find? p = some i := by
  induction n with
  | zero => omega
  | succ n ih =>
    rw [List.range_succ, List.find?_append]
    by_cases hn : i < n
    · rw [ih hn]
      rfl
    · have e : i = n := by omega
      subst e
      have e1 : (List.range i).find? p = none := by
        rw [List.find?_eq_none]
        intro x hx
        rw [h x (List.mem_range.mp hx)]
        decide
      rw [e1]
      show List.find? p [i] = some i
      rw [List.find?_cons_of_pos hp]
theorem find_no {p : Nat → Bool} {n : Nat} (h : ∀ j < n, p j = false) : (List.range n).find? p = none := by
  rw [List.find?_eq_none]
  intro x hx
  rw [h x (List.mem_range.mp hx)]
  decide
theorem wrong_step {ds : List PyData} {i : Nat} (h : ∀ j < i, stepBad ds j = false) (hi : i < ds.length) (hp : stepBad ds i = true) : wrongV ds = some (.int i) := by
  unfold wrongV
  rw [find_at h hi hp]
theorem wrong_long {ds : List PyData} (h : ∀ j < ds.length, stepBad ds j = false) (h9 : 9 < ds.length) : wrongV ds = some .non := by
  unfold wrongV
  rw [find_no h]
  exact if_pos h9
theorem wrong_bad {ds : List PyData} {i : Nat} (h : ∀ j < ds.length, stepBad ds j = false) (h9 : ¬ 9 < ds.length) (hb : ∀ j < i, badAt ds j = false) (hi : i < ds.length) (hp : badAt ds i = true) : wrongV ds = some (.int i) := by
  unfold wrongV
  rw [find_no h]
  show (if 9 < ds.length then some V.non else _) = _
  rw [if_neg h9, find_at hb hi hp]
theorem wrong_none {ds : List PyData} (h : ∀ j < ds.length, stepBad ds j = false) (h9 : ¬ 9 < ds.length) (hb : ∀ j < ds.length, badAt ds j = false) : wrongV ds = none := by
  unfold wrongV
  rw [find_no h]
  show (if 9 < ds.length then some V.non else _) = _
  rw [if_neg h9, find_no hb]
theorem all_steps {ds : List PyData} (h : ∀ j < ds.length, stepBad ds j = false) {d : PyData} (hd : d ∈ ds) : isStepP d = true := by
  obtain ⟨j, hj⟩ := List.mem_iff_getElem?.mp hd
  have hl : j < ds.length := (List.getElem?_eq_some_iff.mp hj).1
  have := h j hl
  unfold stepBad at this
  rw [hj] at this
  have this : (!isStepP d) = false := this
  cases e : isStepP d with
  | true => rfl
  | false =>
    rw [e] at this
    cases this
theorem wrong_ok {ds : List PyData} (h : wrongV ds = none) : (∀ j < ds.length, stepBad ds j = false) ∧ ds.length ≤ 9 ∧ ∀ j < ds.length, badAt ds j = false := by
  unfold wrongV at h
  cases e : (List.range ds.length).find? (stepBad ds) with
  | some i => rw [e] at h; cases h
  | none =>
    rw [e] at h
    have h : (if 9 < ds.length then some V.non else match (List.range ds.length).find? (badAt ds) with | some i => some (V.int i) | none => none) = none := h
    by_cases h9 : 9 < ds.length
    · rw [if_pos h9] at h; cases h
    · rw [if_neg h9] at h
      cases e2 : (List.range ds.length).find? (badAt ds) with
      | some i => rw [e2] at h; cases h
      | none =>
        rw [List.find?_eq_none] at e e2
        refine ⟨fun j hj => ?_, by omega, fun j hj => ?_⟩
        · have := e j (List.mem_range.mpr hj)
          exact bf this
        · have := e2 j (List.mem_range.mpr hj)
          exact bf this
theorem wrong_flat {ds : List PyData} {v : V} (h : wrongV ds = some v) : (∃ i : Nat, i < ds.length ∧ v = .int i) ∨ v = .non := by
  unfold wrongV at h
  cases e : (List.range ds.length).find? (stepBad ds) with
  | some i =>
    rw [e] at h
    exact .inl ⟨i, List.mem_range.mp (List.mem_of_find?_eq_some e), (Option.some.inj h).symm⟩
  | none =>
    rw [e] at h
    have h : (if 9 < ds.length then some V.non else match (List.range ds.length).find? (badAt ds) with | some i => some (V.int i) | none => none) = some v := h
    by_cases h9 : 9 < ds.length
    · rw [if_pos h9] at h
      exact .inr (Option.some.inj h).symm
    · rw [if_neg h9] at h
      cases e2 : (List.range ds.length).find? (badAt ds) with
      | some i =>
        rw [e2] at h
        exact .inl ⟨i, List.mem_range.mp (List.mem_of_find?_eq_some e2), (Option.some.inj h).symm⟩
      | none => rw [e2] at h; cases h
/-! ### slices of tuples, apart from a pool -/
theorem slice0 {K : PySem.W.Frag} {H : Hp} {v : V} {ds : List PyData} {lo hi : Option Int} {Q : VK} (hv : Dp K H v (.tuple ds)) (hq : ∀ x H', Same H H' → Dp K H' x (.tuple (cutG ds lo hi)) → Q x H') : rSlA K v lo hi H Q := by
  cases hv with
  | @tup a xs _ hs ha =>
    have l1 := dpAll_len ha
    refine ⟨a, xs, rfl, hs, fun e => ?_, fun _ t ht => ?_⟩
    · have e2 : cutG ds lo hi = ds := by
        unfold cutG
        rw [← l1, e.1, e.2, l1]
        show (ds.drop 0).take (ds.length - 0) = ds
        rw [List.drop_zero, Nat.sub_zero, List.take_length]
      have := hq (.ref a) H (Same.refl H)
      rw [e2] at this
      exact this (.tup hs ha)
    · exact hq _ _ (same_upd ht) (.tup (.inl (.inl upd_same)) (dpAll_same (same_upd ht) _ _ (dpAll_cut ha lo hi)))
theorem good_cut {n : Nat} {ds : List PyData} {lo hi : Option Int} (h : Good (n + 1) (.tuple ds)) : Good (n + 1) (.tuple (cutG ds lo hi)) := by
  obtain ⟨h1, h2⟩ := Good.tup.mp h
  exact good_t (Nat.le_trans (cutG_len ds lo hi) h1) fun d hd => h2 d (cutG_mem hd)
/-- a step's first word -/
theorem step_word {K : PySem.W.Frag} {H : Hp} {v : V} {d : PyData} (hv : Val K H v d) (hs : isStepP d = true) : ∃ (a : Addr) (xs : List V), v = .ref a ∧ SqT K H a xs ∧ atI xs ((0 : Nat) : Int) = some (.str (headW d)) := by
  obtain ⟨z, r, rfl⟩ := step_head hs
  obtain ⟨a, xs, rfl, hq, _, _, _, hget⟩ := hv.tup
  obtain ⟨v0, h0, hv0⟩ := hget 0 _ rfl
  obtain ⟨rfl, _⟩ := hv0.str
  exact ⟨a, xs, rfl, hq, atI_nat h0⟩
section
variable {P : Program} {w : World} {K : PySem.W.Frag} {mg : Str → Option Value} {base : Heap} {lt0 lt1 : Tok} {t4 t5 t6 : Addr} {S fS N fN : Addr}
/-! ### the errors -/
theorem sc_is_init : FnScope ["self", "index"] ["self", "index"] (defScope sIS_init) := ⟨rfl, rfl, rfl, by decide +kernel, rfl, by decide +kernel, by decide +kernel⟩
theorem ok_is_init {f : Addr} {fd : FuncData} (F : Fun K "__init__" "InvalidStep.__init__" sIS_init f fd) (T : ExT K mg "InvalidStep" "index" S fS) : FnOk P w K mg base CX0 1 f fd ["self", "index"] (spExI S "index") := by
  refine F.ok sc_is_init (fun vs H Q E h => ?_) (fun cdv A outer s H vs Q E hr h => ?_)
  · obtain ⟨a, v, rfl, _⟩ := h
    rfl
  · obtain ⟨a, v, rfl, ha, q⟩ := h
    refine ⟨_, pss_one (ps_ost (pv 0) (pv 1) rfl), ?_⟩
    exact ⟨_, rfl, _, rfl, a, S, rfl, T.o, T.no, .inl ⟨ha, fun dx h1 h2 => q dx h1 h2⟩⟩
theorem sc_in_init : FnScope ["self", "value"] ["self", "value"] (defScope sIN_init) := ⟨rfl, rfl, rfl, by decide +kernel, rfl, by decide +kernel, by decide +kernel⟩
theorem ok_in_init {f : Addr} {fd : FuncData} (F : Fun K "__init__" "InvalidNumber.__init__" sIN_init f fd) (T : ExT K mg "InvalidNumber" "value" N fN) : FnOk P w K mg base CX0 1 f fd ["self", "value"] (spExI N "value") := by
  refine F.ok sc_in_init (fun vs H Q E h => ?_) (fun cdv A outer s H vs Q E hr h => ?_)
  · obtain ⟨a, v, rfl, _⟩ := h
    rfl
  · obtain ⟨a, v, rfl, ha, q⟩ := h
    refine ⟨_, pss_one (ps_ost (pv 0) (pv 1) rfl), ?_⟩
    exact ⟨_, rfl, _, rfl, a, N, rfl, T.o, T.no, .inl ⟨ha, fun dx h1 h2 => q dx h1 h2⟩⟩
/-! ### _checked -/
/-- no integer from 0 to hi -/
def NoIx (K : PySem.W.Frag) (H : Hp) (x : V) (hi : Int) : Prop := (∃ n : Int, x = .int n ∧ isInt n 0 hi = false) ∨ ∃ T : String, TyX K H x (.type T) ∧ (kitB T "int" = some false ∨ (kitB T "int" = some true ∧ kitB T "bool" = some true))
def spChecked (K : PySem.W.Frag) (N : Addr) : Sp := fun vs H Q E => ∃ (x : V) (hi : Int), vs = [x, .int hi] ∧ ((∃ n : Int, x = .int n ∧ isInt n 0 hi = true ∧ Q (.int n) H) ∨
  (NoIx K H x hi ∧ ∀ (d : Addr) (H' : Hp), H d = none → Same H H' → H' d = some (.xd [("value", x)]) → E (.ref N) (some d) H'))
theorem sc_checked : FnScope ["value", "highest"] ["value", "highest"] (defScope s_checked) := ⟨rfl, rfl, rfl, by decide +kernel, rfl, by decide +kernel, by decide +kernel⟩
theorem ok_checked {f : Addr} {fd : FuncData} (F : Fun K "_checked" "_checked" s_checked f fd) (TN : ExT K mg "InvalidNumber" "value" N fN) {f1 : Addr} {fd1 : FuncData} (F_is_integer : Fun K "is_integer" "is_integer" s_is_integer f1 fd1) (b_is_integer : Binds K fd1 ["value", "lowest", "highest"] []) (g_is_integer : mg "is_integer" = some (.ref f1)) (G_is_integer : FnOk P w K mg base CX0 1 f1 fd1 ["value", "lowest", "highest"] (spIsInt K))
    {fdN : FuncData} (bN : Binds K fdN ["self", "value"] []) (GN : FnOk P w K mg base CX0 1 fN fdN ["self", "value"] (spExI N "value")) : FnOk P w K mg base (L2.CX P w) 3 f fd ["value", "highest"] (spChecked K N) := by
  refine F.okX sc_checked (fun vs H Q E h => ?_) (fun cdv A outer s H vs Q E hr h => ?_)
  · obtain ⟨x, hi, rfl, _⟩ := h
    rfl
  · obtain ⟨x, hi, rfl, h⟩ := h
    refine ⟨_, (pss_cons (ps_if (pt_not (pt_val (pe_call G_is_integer (hr.mono (by decide)) (by rfl) g_is_integer F_is_integer.kp b_is_integer .nil pass0 (pa_cons (pv 0) (pa_cons pe_int (pa_cons (pv 1) pa_nil)))))) 
      (pss_one (ps_raise rfl (takes_of rfl rfl rfl rfl) (pmk_oex TN.o TN.i TN.t GN hr bN .nil pass0 rfl TN.g (pa_cons (pv 0) pa_nil)))) pss_nil) 
    (pss_one (ps_ret (pv 0)))), ?_⟩
    refine ⟨_, rfl, _, rfl, x, 0, hi, rfl, ?_⟩
    rcases h with ⟨n, rfl, hn, q⟩ | ⟨hno, q⟩
    · exact .inl ⟨n, rfl, _, rfl, by rw [hn]; exact ⟨_, rfl, q⟩⟩
    · have go : (fun v H2 => ∃ b : Bool, v = V.bl b ∧ b = false) (V.bl false) H := ⟨false, rfl, rfl⟩
      rcases hno with ⟨n, rfl, hn⟩ | ⟨T, hT, hk⟩
      · exact .inl ⟨n, rfl, _, rfl, by rw [hn]; exact ⟨_, rfl, mko q⟩⟩
      · exact .inr ⟨T, hT, hk, _, rfl, ⟨_, rfl, mko q⟩⟩
end
end K06

namespace K06
open PySem PySem.Spec PyProof.Rows L2 TL GG OO
theorem room65 {k : Nat} {A : Around} (r : Room k A) : A.units + 65 < cLine := by
  have := r.un
  omega
section
variable {P : Program} {w : World} {K : PySem.W.Frag} {mg : Str → Option Value} {base : Heap} {lt0 lt1 : Tok} {t4 t5 t6 : Addr} {S fS N fN : Addr}
/-! ### locked_behind -/
def spLocked (K : PySem.W.Frag) : Sp := fun vs H Q _ => ∃ (x : V) (ds : List PyData), vs = [x] ∧ Val K H x (.tuple ds) ∧ (∀ d ∈ ds, isStepP d = true) ∧ ∀ H' p, Same H H' → H p = none → H' p = some (.lst ((lks ds (ds.length + 1)).map V.bl)) → Q (.ref p) H'
theorem sc_locked_behind : FnScope ["steps", "told", "step"] ["steps"] (defScope s_locked_behind) := ⟨rfl, rfl, rfl, by decide +kernel, rfl, by decide +kernel, by decide +kernel⟩
theorem ok_locked_behind {f : Addr} {fd : FuncData} (F : Fun K "locked_behind" "locked_behind" s_locked_behind f fd) : FnOk P w K mg base CX0 1 f fd ["steps"] (spLocked K) := by
  refine F.ok sc_locked_behind (fun vs H Q E h => ?_) (fun cdv A outer s H vs Q E hr h => ?_)
  · obtain ⟨x, ds, rfl, _⟩ := h
    rfl
  · obtain ⟨x, ds, rfl, hv, hst, q⟩ := h
    refine ⟨_, (pss_cons (ps_set (i := 1) sc_locked_behind.nd rfl (.inl rfl) (pe_lst (pa_cons pe_bl pa_nil))) 
    (pss_cons (ps_for PassesOwn.never rfl (pi_tup (pv 0)) (pg_name (i := 2) sc_locked_behind.nd rfl (.inl rfl)) 
      (pss_one (ps_expr (pe_bm PySem.F.plainAttrs_list PySem.F.slot_list_append PySem.F.type_list_append mt_append (pv 1) (pa_cons (pe_or (pe_cmpR op_eq (pe_ix ix_tup (pv 2) pe_int (fun _ _ => rfl)) pe_str (nomark _)) (pe_one (pe_and (pe_ix ix_list (pv 1) (pe_un un_neg pe_int) (fun _ _ => rfl)) (pe_one (pe_cmpR op_ne (pe_ix ix_tup (pv 2) pe_int (fun _ _ => rfl)) pe_str (nomark _)))))) pa_nil))))) 
    (pss_one (ps_ret (pv 1))))), ?_⟩
    obtain ⟨b, xs, rfl, hs, ha, hl, h1000, hget⟩ := hv.tup
    refine ⟨(by show 1 ≤ sizeLine; decide), fun p hp => ?_⟩
    have s0 : Same H (upd H p (.lst [.bl false])) := same_upd hp
    refine ⟨_, rfl, b, rfl, ⟨_, Same.seqT s0 hs⟩, for_it (walk_tup (xs := xs)) (fun i σ H' => Same H H' ∧ H' p = some (.lst ((lks ds (i + 1)).map V.bl)) ∧ ∃ y : Option V, σ = [some (.ref b), some (.ref p), y]) ⟨s0, upd_same, _, rfl⟩ (fun i σ H' _ h => Same.seqT h.1 hs) ?_ ?_⟩
    · rintro i x σ _ H1 hi ⟨s1, hp1, y, rfl⟩ ⟨rfl, hx⟩
      have hid : i < ds.length := by omega
      have hdi : ds[i]? = some ds[i] := List.getElem?_eq_getElem hid
      obtain ⟨v, hxv, hvd⟩ := hget i _ hdi
      have e : x = v := Option.some.inj (hx.symm.trans hxv)
      subst e
      obtain ⟨a, zs, rfl, hq, hz⟩ := step_word hvd (hst _ (List.mem_of_getElem? hdi))
      have hq := Same.seqT s1 hq
      have hlast : atI ((lks ds (i + 1)).map V.bl) (-1) = some (.bl (lkAt ds i)) := by
        rw [lks_succ, List.map_append]
        exact atI_last _ _
      have fin : ∀ c : Bool, c = lkAt ds (i + 1) → ∃ (l : Addr) (us : List V) (u : V), V.ref p = .ref l ∧ [V.bl c] = [u] ∧ H1 l = some (.lst us) ∧ us.length < sizeLine ∧ Same H (upd H1 l (.lst (us ++ [u]))) ∧ upd H1 l (.lst (us ++ [u])) p = some (.lst ((lks ds (i + 1 + 1)).map V.bl)) ∧ ∃ y : Option V, [some (V.ref b), some (.ref p), some (.ref a)] = [some (.ref b), some (.ref p), y] := fun c hc =>
        ⟨p, (lks ds (i + 1)).map V.bl, .bl c, rfl, rfl, hp1, small1000 (by rw [List.length_map, lks_len]; omega), same_st s1 hp, by rw [upd_same, hc, lks_succ ds (i + 1), List.map_append]; rfl, _, rfl⟩
      have e1 : lkAt ds (i + 1) = lkB (lkAt ds i) ds[i] := lkAt_succ hdi
      refine ⟨_, rfl, .inl ⟨rfl, _, .inl (.inl hp1)⟩, _, rfl, a, zs, _, _, rfl, rfl, hq, hz, rfl, _, rfl, ite2 (fun h1 => ?_) (fun h1 => ?_)⟩
      · refine fin true ?_
        have h1 : isW ds[i] "lock" = true := h1
        rw [e1]
        unfold lkB
        rw [h1]
        rfl
      · have h1 : isW ds[i] "lock" = false := bf h1
        refine ⟨_, rfl, _, rfl, p, _, _, _, rfl, rfl, .inl (.inl hp1), hlast, _, rfl, ite2 (fun h2 => ?_) (fun h2 => ?_)⟩
        · refine ⟨_, rfl, a, zs, _, _, rfl, rfl, hq, hz, rfl, ?_⟩
          refine fin _ ?_
          rw [e1]
          unfold lkB
          rw [h1, h2]
          rfl
        · refine fin false ?_
          rw [e1]
          unfold lkB
          rw [h1, bf h2]
          rfl
    · rintro σ H1 ⟨s1, hp1, y, rfl⟩
      refine ⟨_, rfl, q H1 p s1 hp ?_⟩
      rw [hp1, hl]
/-! ### check_steps -/
def spCheck (K : PySem.W.Frag) (S : Addr) : Sp := fun vs H Q E => ∃ (x : V) (ds : List PyData), vs = [x] ∧ Val K H x (.tuple ds) ∧ (wrongV ds = none → ∀ H', Same H H' → Q .non H') ∧
  ∀ v, wrongV ds = some v → ∀ (d : Addr) (H' : Hp), H d = none → Same H H' → H' d = some (.xd [("index", v)]) → E (.ref S) (some d) H'
theorem sc_check_steps : FnScope ["parts", "index", "part", "locked"] ["parts"] (defScope s_check_steps) := ⟨rfl, rfl, rfl, by decide +kernel, rfl, by decide +kernel, by decide +kernel⟩
theorem ok_check_steps {f : Addr} {fd : FuncData} (F : Fun K "check_steps" "check_steps" s_check_steps f fd) (T : Txt K mg lt0 lt1 t4 t5 t6) (TS : ExT K mg "InvalidStep" "index" S fS)
    {f1 : Addr} {fd1 : FuncData} (F_is_step : Fun K "is_step" "is_step" s_is_step f1 fd1) (b_is_step : Binds K fd1 ["value"] []) (g_is_step : mg "is_step" = some (.ref f1)) (G_is_step : FnOk P w K mg base CX0 3 f1 fd1 ["value"] (spChk K isStepP))
    {f2 : Addr} {fd2 : FuncData} (F_locked_behind : Fun K "locked_behind" "locked_behind" s_locked_behind f2 fd2) (b_locked_behind : Binds K fd2 ["steps"] []) (g_locked_behind : mg "locked_behind" = some (.ref f2)) (G_locked_behind : FnOk P w K mg base CX0 1 f2 fd2 ["steps"] (spLocked K))
    {fdS : FuncData} (bS : Binds K fdS ["self", "index"] []) (GS : FnOk P w K mg base CX0 1 fS fdS ["self", "index"] (spExI S "index")) : FnOk P w K mg base (L2.CX P w) 4 f fd ["parts"] (spCheck K S) := by
  refine F.okX sc_check_steps (fun vs H Q E h => ?_) (fun cdv A outer s H vs Q E hr h => ?_)
  · obtain ⟨x, ds, rfl, _⟩ := h
    rfl
  · obtain ⟨x, ds, rfl, hv, q, qe⟩ := h
    have hr2 : Room 2 _ := hr.mono (by decide)
    refine ⟨_, (pss_cons (ps_for (passes_of rfl) rfl (pi_enumT (by rfl) T.m_enumerate (pa_cons (pv 0) pa_nil)) (pg_tup rfl (pgs_cons (pg_name (i := 1) sc_check_steps.nd rfl (.inl rfl)) (pgs_cons (pg_name (i := 2) sc_check_steps.nd rfl (.inl rfl)) pgs_nil))) 
      (pss_one (ps_if (pt_not (pt_val (pe_call G_is_step hr (by rfl) g_is_step F_is_step.kp b_is_step .nil pass0 (pa_cons (pv 2) pa_nil)))) 
        (pss_one (ps_raise rfl (takes_of rfl rfl rfl rfl) (pmk_oex TS.o TS.i TS.t GS hr2 bS .nil pass0 rfl TS.g (pa_cons (pv 1) pa_nil)))) pss_nil))) 
    (pss_cons (ps_if (pt_cmpR op_gt (pe_callB call_len_seq (by rfl) T.m_len PySem.boot_len (pa_cons (pv 0) pa_nil)) (pe_glob (v := .int 9) rfl T.c_MOST_STEPS ⟨_, rfl⟩) (nomark _)) 
      (pss_one (ps_raise rfl (takes_of rfl rfl rfl rfl) (pmk_oex TS.o TS.i TS.t GS hr2 bS .nil pass0 rfl TS.g (pa_cons pe_non pa_nil)))) pss_nil) 
    (pss_cons (ps_set (i := 3) sc_check_steps.nd rfl (.inl rfl) (pe_call G_locked_behind (hr.mono (by decide)) (by rfl) g_locked_behind F_locked_behind.kp b_locked_behind .nil pass0 (pa_cons (pv 0) pa_nil))) 
    (pss_one (ps_for (passes_of rfl) rfl (pi_enumT (by rfl) T.m_enumerate (pa_cons (pv 0) pa_nil)) (pg_tup rfl (pgs_cons (pg_name (i := 1) sc_check_steps.nd rfl (.inl rfl)) (pgs_cons (pg_name (i := 2) sc_check_steps.nd rfl (.inl rfl)) pgs_nil))) 
      (pss_cons (ps_if (PW.pt (pw_and (pt_cmpR op_in_seq (pe_ix ix_tup (pv 2) pe_int (fun _ _ => rfl)) (pe_glob (v := .ref t6) rfl T.c_ONCE rfl) (by rfl)) (pw_and1 (pt_cmpR (op_inT (room65 hr)) (pv 2) (pe_slice sl_tupA (pv 0) po_none (po_some (pv 1))) (by rfl))))) 
        (pss_one (ps_raise rfl (takes_of rfl rfl rfl rfl) (pmk_oex TS.o TS.i TS.t GS hr2 bS .nil pass0 rfl TS.g (pa_cons (pv 1) pa_nil)))) pss_nil) 
      (pss_one (ps_if (PW.pt (pw_and (pt_cmpR op_in_seq (pe_ix ix_tup (pv 2) pe_int (fun _ _ => rfl)) (pe_tup (pa_cons pe_str (pa_cons pe_str pa_nil))) (by rfl)) (pw_and1 (pt_cmpR op_eq (pe_ix ix_list (pv 3) (pv 1) (fun _ _ => rfl)) (pe_cmpR op_eq (pe_ix ix_tup (pv 2) pe_int (fun _ _ => rfl)) pe_str (nomark _)) (nomark _))))) 
        (pss_one (ps_raise rfl (takes_of rfl rfl rfl rfl) (pmk_oex TS.o TS.i TS.t GS hr2 bS .nil pass0 rfl TS.g (pa_cons (pv 1) pa_nil)))) pss_nil)))))))), ?_⟩
    obtain ⟨b, xs, rfl, hs, ha, hl, h1000, hget⟩ := hv.tup
    have hdp := hv.dp
    have raise : ∀ (v : V) (H1 : Hp), wrongV ds = some v → Same H H1 → ∀ (d : Addr) (H' : Hp), H1 d = none → Same H1 H' → H' d = some (.xd [("index", v)]) → E (.ref S) (some d) H' := fun v H1 hw s1 d H' hd s2 he => qe v hw d H' (s1.free hd) (s1.trans s2) he
    refine ⟨_, rfl, b, xs, rfl, hs, for_it walk_enumT (fun i σ H' => Same H H' ∧ (∀ j < i, stepBad ds j = false) ∧ ∃ y1 y2 y3 : Option V, σ = [some (.ref b), y1, y2, y3]) ⟨Same.refl H, fun j hj => absurd hj (Nat.not_lt_zero j), _, _, _, rfl⟩ (fun i σ H' _ h => Same.seqT h.1 hs) ?_ ?_⟩
    · rintro i x σ H1 H1' hi ⟨s1, hb, y1, y2, y3, rfl⟩ ⟨t, u, v, rfl, ht, rfl, hu, hx⟩
      have eu : u = .int (i : Nat) := (Option.some.inj hu).symm
      subst eu
      have hid : i < ds.length := by omega
      have hdi : ds[i]? = some ds[i] := List.getElem?_eq_getElem hid
      obtain ⟨v', hxv, hvd⟩ := hget i _ hdi
      have e : v = v' := Option.some.inj (hx.symm.trans hxv)
      subst e
      have s2 : Same H (upd H1 t (.tup [.int (i : Nat), v])) := s1.trans (same_upd ht)
      refine ⟨t, _, rfl, .inl (.inl upd_same), rfl, _, _, rfl, _, _, rfl, ?_⟩
      refine ⟨rfl, _, rfl, v, ds[i], rfl, hvd.same s2, fun H3 s3 => ⟨_, rfl, ite2 (fun h1 => ?_) (fun h1 => ?_)⟩⟩
      · have e1 : stepBad ds i = true := by
          unfold stepBad
          rw [hdi]
          exact h1
        exact ⟨_, rfl, mko (raise (.int i) H3 (wrong_step hb hid e1) (s2.trans s3))⟩
      · have e1 : stepBad ds i = false := by
          unfold stepBad
          rw [hdi]
          exact bf h1
        refine ⟨s2.trans s3, fun j hj => ?_, _, _, _, rfl⟩
        by_cases hj2 : j < i
        · exact hb j hj2
        · have e : j = i := by omega
          rw [e]
          exact e1
    · rintro σ H1 ⟨s1, hb, y1, y2, y3, rfl⟩
      rw [hl] at hb
      refine ⟨_, rfl, b, xs, rfl, .inr (Same.seqT s1 hs), _, _, rfl, rfl, _, rfl, ite2 (fun h9 => ?_) (fun h9 => ?_)⟩
      · have h9 : (9 : Int) < xs.length := of_decide_eq_true h9
        exact mko (raise .non H1 (wrong_long hb (by omega)) s1)
      have h9 : ¬ 9 < ds.length := fun z => h9 (decide_eq_true (by omega))
      refine ⟨_, rfl, _, ds, rfl, hv.same s1, fun d hd => all_steps hb hd, fun H2 p s2 hp hp2 => ?_⟩
      have s2 := s1.trans s2
      refine ⟨_, rfl, b, xs, rfl, Same.seqT s2 hs, for_it walk_enumT (fun i σ H' => Same H2 H' ∧ (∀ j < i, badAt ds j = false) ∧ ∃ y1 y2 : Option V, σ = [some (.ref b), y1, y2, some (.ref p)]) ⟨Same.refl H2, fun j hj => absurd hj (Nat.not_lt_zero j), _, _, rfl⟩ (fun i σ H' _ h => Same.seqT (s2.trans h.1) hs) ?_ ?_⟩
      · rintro i x σ H3 H3' hi ⟨s3, hbb, y1, y2, rfl⟩ ⟨t, u, v, rfl, ht, rfl, hu, hx⟩
        have eu : u = .int (i : Nat) := (Option.some.inj hu).symm
        subst eu
        have hid : i < ds.length := by omega
        have hdi : ds[i]? = some ds[i] := List.getElem?_eq_getElem hid
        obtain ⟨v', hxv, hvd⟩ := hget i _ hdi
        have e : v = v' := Option.some.inj (hx.symm.trans hxv)
        subst e
        have hst := all_steps hb (List.mem_of_getElem? hdi)
        obtain ⟨a, zs, rfl, hq, hz⟩ := step_word hvd hst
        have s4 : Same H2 (upd H3 t (.tup [.int (i : Nat), .ref a])) := s3.trans (same_upd ht)
        have s5 := s2.trans s4
        have hq := Same.seqT s5 hq
        have e0 : badAt ds i = (onceB ds i ds[i] || lockB ds i ds[i]) := by
          unfold badAt
          rw [hdi]
        have no : ∀ H9, Same H2 H9 → badAt ds i = false → Same H2 H9 ∧ (∀ j < i + 1, badAt ds j = false) ∧ ∃ y1 y2 : Option V, [some (V.ref b), some (.int (i : Nat)), some (.ref a), some (.ref p)] = [some (.ref b), y1, y2, some (.ref p)] := fun H9 s9 e1 => by
          refine ⟨s9, fun j hj => ?_, _, _, rfl⟩
          by_cases hj2 : j < i
          · exact hbb j hj2
          · have e : j = i := by omega
            rw [e]
            exact e1
        have wr : badAt ds i = true → wrongV ds = some (.int i) := fun e1 => wrong_bad hb h9 hbb hid e1
        refine ⟨t, _, rfl, .inl (.inl upd_same), rfl, _, _, rfl, _, _, rfl, ?_⟩
        have hlk : ((lks ds (ds.length + 1)).map V.bl)[i]? = some (.bl (lkAt ds i)) := by
          rw [List.getElem?_map, lks_get (by omega)]
          rfl
        refine ⟨rfl, _, rfl, a, zs, _, _, rfl, rfl, hq, hz, t6, _, rfl, .inr (T.w6 _), rfl, flat_words wOnce, _, rfl, ite2 (fun h1 => ?_) (fun h1 => ?_)⟩
        · refine ⟨_, rfl, _, rfl, _, rfl, _, rfl, slice0 (dp_same s5 _ _ hdp.1) fun x1 H6 s6 hx1 => ?_⟩
          have s7 := s4.trans s6
          refine ⟨ds[i], _, dp_same (s5.trans s6) _ _ (dpAll_at ha hx hdi), hx1, ((Good.tup (n := 59)).mp hdp.2).2 _ (List.mem_of_getElem? hdi) |>.lay (by decide), (good_cut (n := 59) hdp.2).lay (by decide), _, rfl, ite2 (fun h2 => ?_) (fun h2 => ?_)⟩
          · have e1 : onceB ds i ds[i] = true := by
              unfold onceB
              rw [show inV (.str (headW ds[i])) (wOnce.map V.str) = true from h1, show ((cutG ds none (some (i : Int))).any fun z => PyData.eqv z ds[i]) = true from h2]
              rfl
            exact ⟨_, rfl, mko (raise (.int i) H6 (wr (by rw [e0, e1]; rfl)) (s2.trans s7))⟩
          have ho : onceB ds i ds[i] = false := by
            unfold onceB
            rw [show ((cutG ds none (some (i : Int))).any fun z => PyData.eqv z ds[i]) = false from bf h2, Bool.and_false]
          have hq := Same.seqT s6 hq
          have hpl := s7 _ _ hp2
          clear hx1 h1 h2 s6
          refine ⟨_, rfl, a, zs, _, _, rfl, rfl, hq, hz, (by show 2 ≤ sizeLine; decide), fun u hu => ⟨u, _, rfl, .inr (.inl (.inl upd_same)), rfl, rfl, _, rfl, ite2 (fun h1 => ?_) (fun h1 => ?_)⟩⟩
          · have s8 := s7.trans (same_upd (o := .tup [V.str "lock", .str "unlock"]) hu)
            refine ⟨_, rfl, _, rfl, p, _, _, _, rfl, rfl, .inl (.inl ((same_upd hu) _ _ hpl)), atI_nat hlk, _, rfl, a, zs, _, _, rfl, rfl, Same.seqT (same_upd hu) hq, hz, rfl, rfl, _, rfl, ite2 (fun h2 => ?_) (fun h2 => ?_)⟩
            · have e1 : lockB ds i ds[i] = true := by
                unfold lockB
                rw [show inV (.str (headW ds[i])) [.str "lock", .str "unlock"] = true from h1]
                exact h2
              exact ⟨_, rfl, mko (raise (.int i) _ (wr (by rw [e0, e1, Bool.or_true])) (s2.trans s8))⟩
            · have e1 : lockB ds i ds[i] = false := by
                unfold lockB
                rw [show inV (.str (headW ds[i])) [.str "lock", .str "unlock"] = true from h1]
                exact bf h2
              exact no _ s8 (by rw [e0, ho, e1]; rfl)
          · have e1 : lockB ds i ds[i] = false := by
              unfold lockB
              rw [show inV (.str (headW ds[i])) [.str "lock", .str "unlock"] = false from bf h1]
              rfl
            exact no _ (s7.trans (same_upd hu)) (by rw [e0, ho, e1]; rfl)
        · have ho : onceB ds i ds[i] = false := by
            unfold onceB
            rw [show inV (.str (headW ds[i])) (wOnce.map V.str) = false from bf h1, Bool.false_and]
          have hpl := s4 _ _ hp2
          have s7 := s4
          generalize upd H3 t (.tup [.int (i : Nat), .ref a]) = H6 at s7 hpl hq ⊢
          refine ⟨_, rfl, a, zs, _, _, rfl, rfl, hq, hz, (by show 2 ≤ sizeLine; decide), fun u hu => ⟨u, _, rfl, .inr (.inl (.inl upd_same)), rfl, rfl, _, rfl, ite2 (fun h1 => ?_) (fun h1 => ?_)⟩⟩
          · have s8 := s7.trans (same_upd (o := .tup [V.str "lock", .str "unlock"]) hu)
            refine ⟨_, rfl, _, rfl, p, _, _, _, rfl, rfl, .inl (.inl ((same_upd hu) _ _ hpl)), atI_nat hlk, _, rfl, a, zs, _, _, rfl, rfl, Same.seqT (same_upd hu) hq, hz, rfl, rfl, _, rfl, ite2 (fun h2 => ?_) (fun h2 => ?_)⟩
            · have e1 : lockB ds i ds[i] = true := by
                unfold lockB
                rw [show inV (.str (headW ds[i])) [.str "lock", .str "unlock"] = true from h1]
                exact h2
              exact ⟨_, rfl, mko (raise (.int i) _ (wr (by rw [e0, e1, Bool.or_true])) (s2.trans s8))⟩
            · have e1 : lockB ds i ds[i] = false := by
                unfold lockB
                rw [show inV (.str (headW ds[i])) [.str "lock", .str "unlock"] = true from h1]
                exact bf h2
              exact no _ s8 (by rw [e0, ho, e1]; rfl)
          · have e1 : lockB ds i ds[i] = false := by
              unfold lockB
              rw [show inV (.str (headW ds[i])) [.str "lock", .str "unlock"] = false from bf h1]
              rfl
            exact no _ (s7.trans (same_upd hu)) (by rw [e0, ho, e1]; rfl)
      · rintro σ H3 ⟨s3, hbb, y1, y2, rfl⟩
        rw [hl] at hbb
        exact q (wrong_none hb h9 hbb) H3 (s2.trans s3)
end
end K06

namespace K06
open PySem PySem.Spec PyProof.Rows L2 TL GG OO
/-! ### a puller's row as an object -/
theorem pl_ : ¬ (("_parts" : Str) = "_locked") := by decide +kernel
def rowF (p l : Addr) : List (Str × V) := putF "_locked" (.ref l) (putF "_parts" (.ref p) [])
theorem rowF_p (p l : Addr) : (rowF p l).lookup ("_parts" : Str) = some (.ref p) := by
  unfold rowF
  rw [lookup_putF, if_neg pl_, lookup_putF, if_pos rfl]
theorem rowF_l (p l : Addr) : (rowF p l).lookup ("_locked" : Str) = some (.ref l) := by
  unfold rowF
  rw [lookup_putF, if_pos rfl]
theorem rowF_no (p l : Addr) {m : Str} (h1 : ¬ m = "_locked") (h2 : ¬ m = "_parts") : (rowF p l).lookup m = none := by
  unfold rowF
  rw [lookup_putF, if_neg h1, lookup_putF, if_neg h2]
  all_goals rfl
/-- a tuple that is known as the object it is -/
def Frz (H : Hp) (p : Addr) : Prop := ∃ (ob : Obj) (ys : List V), H p = some (.frz ob (.tup ys)) ∧ ob.cls = .type "tuple" ∧ ob.dict = none
theorem Frz.same {H H' : Hp} {p : Addr} (h : Frz H p) (s : Same H H') : Frz H' p := by
  obtain ⟨ob, ys, h1, h2⟩ := h
  exact ⟨ob, ys, s _ _ h1, h2⟩
def RowAt (K : PySem.W.Frag) (C : Addr) (H : Hp) (r : Addr) (ds : List PyData) : Prop := ∃ dx p l : Addr, H r = some (.ins C dx (rowF p l)) ∧ Val K H (.ref p) (.tuple ds) ∧ H l = some (.tup ((lks ds (ds.length + 1)).map V.bl)) ∧ wrongV ds = none ∧ Frz H p
theorem RowAt.same {K : PySem.W.Frag} {C : Addr} {H H' : Hp} {r : Addr} {ds : List PyData} (h : RowAt K C H r ds) (s : Same H H') : RowAt K C H' r ds := by
  obtain ⟨dx, p, l, h1, h2, h3, h4, h5⟩ := h
  exact ⟨dx, p, l, s _ _ h1, h2.same s, s _ _ h3, h4, h5.same s⟩
theorem keep_same {x : Addr} {H H' : Hp} (k : Keep x H H') {H0 : Hp} (s : Same H0 H) (n : H0 x = none) : Same H0 H' := fun b o e => k b (ne_of_none e n) o (s b o e)
/-- the class PullRow -/
structure ClT (K : PySem.W.Frag) (mg : Str → Option Value) (C : Addr) : Prop where
  mgC : mg "PullRow" = some (.ref C)
  cl : Cls K C
  nP : NoAttr K C "_parts"
  nL : NoAttr K C "_locked"
section
variable {P : Program} {w : World} {K : PySem.W.Frag} {mg : Str → Option Value} {base : Heap} {lt0 lt1 : Tok} {t4 t5 t6 : Addr} {S fS N fN C : Addr}
def spRowI (K : PySem.W.Frag) (C S : Addr) : Sp := fun vs H Q E => ∃ (x p dx : Addr) (ds : List PyData), vs = [.ref x, .ref p] ∧ H x = some (.ins C dx []) ∧ Val K H (.ref p) (.tuple ds) ∧
  (wrongV ds = none → ∀ (H' : Hp) (dx l : Addr), Keep x H H' → H' x = some (.ins C dx (rowF p l)) → H' l = some (.tup ((lks ds (ds.length + 1)).map V.bl)) → Q .non H') ∧
  ∀ v, wrongV ds = some v → ∀ (d : Addr) (H' : Hp), H d = none → Same H H' → H' d = some (.xd [("index", v)]) → E (.ref S) (some d) H'
theorem sc_pr_init : FnScope ["self", "steps"] ["self", "steps"] (defScope sPR_init) := ⟨rfl, rfl, rfl, by decide +kernel, rfl, by decide +kernel, by decide +kernel⟩
theorem ok_pr_init {f : Addr} {fd : FuncData} (F : Fun K "__init__" "PullRow.__init__" sPR_init f fd) (T : Txt K mg lt0 lt1 t4 t5 t6) (CT : ClT K mg C)
    {f1 : Addr} {fd1 : FuncData} (F_check_steps : Fun K "check_steps" "check_steps" s_check_steps f1 fd1) (b_check_steps : Binds K fd1 ["parts"] []) (g_check_steps : mg "check_steps" = some (.ref f1)) (G_check_steps : FnOk P w K mg base (L2.CX P w) 4 f1 fd1 ["parts"] (spCheck K S))
    {f2 : Addr} {fd2 : FuncData} (F_locked_behind : Fun K "locked_behind" "locked_behind" s_locked_behind f2 fd2) (b_locked_behind : Binds K fd2 ["steps"] []) (g_locked_behind : mg "locked_behind" = some (.ref f2)) (G_locked_behind : FnOk P w K mg base CX0 1 f2 fd2 ["steps"] (spLocked K)) :
    FnR P w K mg base (L2.CX P w) 5 f (spStar 1 (spRowI K C S)) := by
  refine Fun.star1 (p1 := "self") (pv := "steps") F sc_pr_init StX.cxUp (fun _ _ _ _ _ _ _ => rfl) (fun _ _ _ _ _ _ _ _ _ => rfl) (fun cdv A outer s H vs Q E hr h => ?_)
  obtain ⟨x, p, dx, ds, rfl, hx, hv, q, qe⟩ := h
  refine ⟨_, (pss_cons (ps_expr (pe_call G_check_steps hr (by rfl) g_check_steps F_check_steps.kp b_check_steps .nil (passX (takes_of rfl rfl rfl rfl)) (pa_cons (pv 1) pa_nil)))
    (pss_cons (ps_fld (pv 0) (pv 1) rfl)
    (pss_one (ps_fld (pv 0) (pe_callTy call_tuple_of (by rfl) T.m_tuple (by decide +kernel) (pa_cons (pe_call G_locked_behind (hr.mono (by decide)) (by rfl) g_locked_behind F_locked_behind.kp b_locked_behind .nil pass0 (pa_cons (pv 1) pa_nil)) pa_nil)) rfl)))), ?_⟩
  refine ⟨_, rfl, _, ds, rfl, hv, fun hw H1 s1 => ?_, fun v hw d H1 h1 s1 hd => qe v hw d H1 h1 s1 hd⟩
  refine ⟨_, rfl, _, rfl, x, C, dx, [], rfl, s1 _ _ hx, CT.cl, CT.nP, (by show 0 < 1000; decide), ?_⟩
  obtain ⟨h2, h3, h4⟩ := wrong_ok hw
  have hst : ∀ d ∈ ds, isStepP d = true := fun d hd => all_steps h2 hd
  have k2 : Keep x H (upd H1 x (.ins C dx (putF "_parts" (.ref p) []))) := fun b hb o e => by rw [upd_ne hb]; exact s1 b o e
  have hv2 : Val K (upd H1 x (.ins C dx (putF "_parts" (.ref p) []))) (.ref p) (.tuple ds) := val_keep hv k2 hx
  refine ⟨_, rfl, _, ds, rfl, hv2, hst, fun H3 u s3 hu hu2 => ⟨u, _, rfl, .inl ⟨.inl (.inl hu2), fun l hl => ?_⟩⟩⟩
  have hx3 : H3 x = some (.ins C dx (putF "_parts" (.ref p) [])) := s3 _ _ upd_same
  have hxl : x ≠ l := ne_of_none hx3 hl
  refine ⟨_, rfl, x, C, dx, _, rfl, by rw [upd_ne hxl]; exact hx3, CT.cl, CT.nL, (by show 1 < 1000; decide), ?_⟩
  refine q hw _ dx l (fun b hb o e => ?_) upd_same ?_
  · have e3 : H3 b = some o := s3 _ _ (k2 b hb o e)
    rw [upd_ne hb, upd_ne (ne_of_none e3 hl)]
    exact e3
  · rw [upd_ne hxl.symm]
    exact upd_same
/-! ### PullRow.of -/
def rowOf : PyData → Option (List PyData)
  | .tuple ds => some ds
  | .list ds => some ds
  | _ => none
def wrongO (d : PyData) : Option V := match rowOf d with
  | some ds => wrongV ds
  | none => some .non
def spOf (K : PySem.W.Frag) (C S : Addr) : Sp := fun vs H Q E => ∃ (x : V) (d : PyData), vs = [x] ∧ Val K H x d ∧ (∀ ds, rowOf d = some ds → wrongV ds = none → ∀ H' r, Same H H' → H r = none → RowAt K C H' r ds → Q (.ref r) H') ∧
  ∀ v, wrongO d = some v → ∀ (a : Addr) (H' : Hp), H a = none → Same H H' → H' a = some (.xd [("index", v)]) → E (.ref S) (some a) H'
theorem any_tl {K : PySem.W.Frag} (d : PyData) : PySem.W.kitAny K (.type (tyName d)) [.type "tuple", .type "list"] = some (rowOf d).isSome := by
  have f : ∀ {a b : String} {r : Bool}, kitB a b = some r → PySem.W.kitOne K (.type a) (.type b) = some r := fun h => kit_ty h
  cases d
  · exact kitAny_cons (b := false) (f (a := "NoneType") (b := "tuple") (by decide +kernel)) (fun _ => kitAny_cons (b := false) (f (a := "NoneType") (b := "list") (by decide +kernel)) (fun _ => rfl) (fun z => nomatch z)) (fun z => nomatch z)
  · exact kitAny_cons (b := false) (f (a := "bool") (b := "tuple") (by decide +kernel)) (fun _ => kitAny_cons (b := false) (f (a := "bool") (b := "list") (by decide +kernel)) (fun _ => rfl) (fun z => nomatch z)) (fun z => nomatch z)
  · exact kitAny_cons (b := false) (f (a := "int") (b := "tuple") (by decide +kernel)) (fun _ => kitAny_cons (b := false) (f (a := "int") (b := "list") (by decide +kernel)) (fun _ => rfl) (fun z => nomatch z)) (fun z => nomatch z)
  · exact kitAny_cons (b := false) (f (a := "str") (b := "tuple") (by decide +kernel)) (fun _ => kitAny_cons (b := false) (f (a := "str") (b := "list") (by decide +kernel)) (fun _ => rfl) (fun z => nomatch z)) (fun z => nomatch z)
  · exact kitAny_cons (b := false) (f (a := "list") (b := "tuple") (by decide +kernel)) (fun _ => kitAny_cons (b := true) (f (a := "list") (b := "list") (by decide +kernel)) (fun z => nomatch z) (fun _ => rfl)) (fun z => nomatch z)
  · exact kitAny_cons (b := true) (f (a := "tuple") (b := "tuple") (by decide +kernel)) (fun z => nomatch z) (fun _ => rfl)
  · exact kitAny_cons (b := false) (f (a := "dict") (b := "tuple") (by decide +kernel)) (fun _ => kitAny_cons (b := false) (f (a := "dict") (b := "list") (by decide +kernel)) (fun _ => rfl) (fun z => nomatch z)) (fun z => nomatch z)
/-- the items of a tuple or list -/
theorem val_items {H : Hp} {x : V} {d : PyData} {ds : List PyData} (h : Val K H x d) (e : rowOf d = some ds) : ∃ (a : Addr) (xs : List V), x = .ref a ∧ (SqT K H a xs ∨ SqL K H a xs) ∧ DpAll K H xs ds ∧ Good 60 (.tuple ds) := by
  rcases h with ⟨h, g⟩ | ⟨rfl, _⟩
  · cases h with
    | lst hs ha =>
      cases e
      exact ⟨_, _, rfl, .inr hs, ha, g⟩
    | tup hs ha =>
      cases e
      exact ⟨_, _, rfl, .inl hs, ha, g⟩
    | _ => cases e
  · cases e
theorem sc_pr_of : FnScope ["steps"] ["steps"] (defScope sPR_of) := ⟨rfl, rfl, rfl, by decide +kernel, rfl, by decide +kernel, by decide +kernel⟩
theorem ok_pr_of {f : Addr} {fd : FuncData} (F : Fun K "of" "PullRow.of" sPR_of f fd) (T : Txt K mg lt0 lt1 t4 t5 t6) (CT : ClT K mg C) (TS : ExT K mg "InvalidStep" "index" S fS) {fI : Addr} (M : Mk K C fI) (GI : FnR P w K mg base (L2.CX P w) 5 fI (spStar 1 (spRowI K C S)))
    {fdS : FuncData} (bS : Binds K fdS ["self", "index"] []) (GS : FnOk P w K mg base CX0 1 fS fdS ["self", "index"] (spExI S "index")) : FnOk P w K mg base (L2.CX P w) 7 f fd ["steps"] (spOf K C S) := by
  refine F.okX sc_pr_of (fun vs H Q E h => ?_) (fun cdv A outer s H vs Q E hr h => ?_)
  · obtain ⟨x, d, rfl, _⟩ := h
    rfl
  · obtain ⟨x, d, rfl, hv, q, qe⟩ := h
    have hr2 : Room 2 _ := hr.mono (by decide)
    refine ⟨_, (pss_cons (ps_if (pt_not (pt_val (pe_callB call_isiT (by rfl) T.m_isinstance (by decide +kernel) (pa_cons (pv 0) (pa_cons (pe_tup (pa_cons (pe_bltn (v := .ty "tuple") (u := .type "tuple") (by rfl) T.m_tuple (by decide +kernel) rfl) (pa_cons (pe_bltn (v := .ty "list") (u := .type "list") (by rfl) T.m_list (by decide +kernel) rfl) pa_nil))) pa_nil)))))
        (pss_one (ps_raise rfl (takes_of rfl rfl rfl rfl) (pmk_oex TS.o TS.i TS.t GS hr2 bS .nil pass0 rfl TS.g (pa_cons pe_non pa_nil)))) pss_nil)
      (pss_one (ps_ret (pe_makeSt (E := fun _ => E) M GI hr rfl CT.mgC (pat (passX (takes_of rfl rfl rfl rfl))) (pv 0))))), ?_⟩
    refine ⟨_, rfl, (by show 2 ≤ sizeLine; decide), fun t ht => ?_⟩
    have s1 : Same H (upd H t (.tup [V.ty "tuple", V.ty "list"])) := same_upd ht
    refine ⟨x, t, _, _, _, _, rfl, upd_same, .cons (.ty "tuple") (.cons (.ty "list") .nil), (hv.same s1).ty, any_tl d, _, rfl, ?_⟩
    cases e : rowOf d with
    | none =>
      have ew : wrongO d = some .non := by
        unfold wrongO
        rw [e]
      exact mko fun a H' h1 h2 h3 => qe .non ew a H' (s1.free h1) (s1.trans h2) h3
    | some ds =>
      obtain ⟨a, xs, rfl, hs, ha, hg⟩ := val_items hv e
      have hs1 : SqT K (upd H t (.tup [V.ty "tuple", V.ty "list"])) a xs ∨ SqL K (upd H t (.tup [V.ty "tuple", V.ty "list"])) a xs := hs.elim (fun z => .inl (Same.seqT s1 z)) fun z => .inr (s1.seq z)
      have ha1 := dpAll_same s1 _ _ ha
      have hlen := dpAll_len ha
      have h1000 := (Good.tup (n := 59)).mp hg
      have ew : wrongO d = wrongV ds := by
        unfold wrongO
        rw [e]
      refine ⟨_, rfl, a, xs, rfl, hs1, fun x dx hx hdx hne => ⟨[.ref x], xs, rfl, rfl, Nat.le_of_lt (small1000 (by omega)), fun p ob hp hcl hob => ?_⟩⟩
      have s2 : Same (upd H t (.tup [V.ty "tuple", V.ty "list"])) (upd (upd (upd (upd H t (.tup [V.ty "tuple", V.ty "list"])) dx (.own x)) x (.ins C dx [])) p (.frz ob (.tup xs))) := ((same_upd hdx).trans (same_upd (by rw [upd_ne hne.symm]; exact hx))).trans (same_upd hp)
      have s3 := s1.trans s2
      have hxp : x ≠ p := ne_of_none upd_same hp
      refine ⟨x, p, dx, ds, rfl, by rw [upd_ne hxp]; exact upd_same, .inl ⟨.tup (.inl (.inr ⟨ob, upd_same⟩)) (dpAll_same s2 _ _ ha1), hg⟩, fun hw H' dx' l k1 hx' hl' => ⟨rfl, ?_⟩, fun v hv' d' H' h1 h2 h3 => qe v (ew.trans hv') d' H' (s3.free h1) (s3.trans h2) h3⟩
      have s4 : Same H H' := keep_same k1 s3 (s1.free hx)
      refine q ds e hw H' x s4 (s1.free hx) ⟨dx', p, l, hx', ?_, hl', hw, ob, xs, k1 p hxp.symm _ upd_same, hcl, hob⟩
      exact val_keep (.inl ⟨.tup (.inl (.inr ⟨ob, upd_same⟩)) (dpAll_same s2 _ _ ha1), hg⟩) k1 (show _ = some (HO.ins C dx []) by rw [upd_ne hxp]; exact upd_same)
end
end K06

namespace K06
open PySem PySem.Spec PyProof.Rows L2 TL GG OO
section
variable {P : Program} {w : World} {K : PySem.W.Frag} {mg : Str → Option Value} {base : Heap} {lt0 lt1 : Tok} {t4 t5 t6 : Addr} {S fS N fN C : Addr}
theorem sc_pr_parts : FnScope ["self"] ["self"] (defScope sPR_parts) := ⟨rfl, rfl, rfl, by decide +kernel, rfl, by decide +kernel, by decide +kernel⟩
theorem ok_pr_parts {f : Addr} {fd : FuncData} (F : Fun K "parts" "PullRow.parts" sPR_parts f fd) (CT : ClT K mg C) : FnOk P w K mg base CX0 1 f fd ["self"] (getSp C "_parts") := by
  refine F.ok sc_pr_parts (fun vs H Q E h => ?_) (fun cdv A outer s H vs Q E hr h => ?_)
  · obtain ⟨a, dx, fs, v, rfl, _⟩ := h
    rfl
  · obtain ⟨a, dx, fs, v, rfl, ha, hl, q⟩ := h
    refine ⟨_, pss_one (ps_ret (pe_fld (pv 0) rfl)), ?_⟩
    exact ⟨_, rfl, a, C, dx, fs, v, rfl, ha, CT.cl, CT.nP, hl, q⟩
def spLen (K : PySem.W.Frag) (C : Addr) : Sp := fun vs H Q _ => ∃ (r : Addr) (ds : List PyData), vs = [.ref r] ∧ RowAt K C H r ds ∧ Q (.int (ds.length : Nat)) H
theorem sc_pr_len : FnScope ["self"] ["self"] (defScope sPR_len) := ⟨rfl, rfl, rfl, by decide +kernel, rfl, by decide +kernel, by decide +kernel⟩
theorem ok_pr_len {f : Addr} {fd : FuncData} (F : Fun K "__len__" "PullRow.__len__" sPR_len f fd) (T : Txt K mg lt0 lt1 t4 t5 t6) (CT : ClT K mg C) : FnOk P w K mg base CX0 1 f fd ["self"] (spLen K C) := by
  refine F.ok sc_pr_len (fun vs H Q E h => ?_) (fun cdv A outer s H vs Q E hr h => ?_)
  · obtain ⟨r, ds, rfl, _⟩ := h
    rfl
  · obtain ⟨r, ds, rfl, ⟨dx, p, l, h1, h2, h3, h4, h5⟩, q⟩ := h
    refine ⟨_, pss_one (ps_ret (pe_callB call_len_seq (by rfl) T.m_len PySem.boot_len (pa_cons (pe_fld (pv 0) rfl) pa_nil))), ?_⟩
    obtain ⟨b, xs, eb, hs, ha, hl, h1000, hget⟩ := h2.tup
    cases eb
    refine ⟨_, rfl, r, C, dx, _, _, rfl, h1, CT.cl, CT.nP, rowF_p _ _, p, xs, rfl, .inr hs, ?_⟩
    rw [hl]
    exact q
def spLock (K : PySem.W.Frag) (C N : Addr) : Sp := fun vs H Q E => ∃ (r : Addr) (x : V) (ds : List PyData), vs = [.ref r, x] ∧ RowAt K C H r ds ∧ ((∃ n : Nat, x = .int n ∧ n ≤ ds.length ∧ Q (.bl (lkAt ds n)) H) ∨
  (NoIx K H x (ds.length : Nat) ∧ ∀ (d : Addr) (H' : Hp), H d = none → Same H H' → H' d = some (.xd [("value", x)]) → E (.ref N) (some d) H'))
theorem sc_pr_lock : FnScope ["self", "done"] ["self", "done"] (defScope sPR_lock) := ⟨rfl, rfl, rfl, by decide +kernel, rfl, by decide +kernel, by decide +kernel⟩
theorem is_ix {n m : Nat} (h : n ≤ m) : isInt (n : Int) 0 (m : Int) = true := by
  unfold isInt
  rw [decide_eq_true (by omega), decide_eq_true (by omega)]
  rfl
theorem ok_pr_lock {f : Addr} {fd : FuncData} (F : Fun K "has_lock" "PullRow.has_lock" sPR_lock f fd) (T : Txt K mg lt0 lt1 t4 t5 t6) (CT : ClT K mg C)
    {f1 : Addr} {fd1 : FuncData} (F_checked : Fun K "_checked" "_checked" s_checked f1 fd1) (b_checked : Binds K fd1 ["value", "highest"] []) (g_checked : mg "_checked" = some (.ref f1)) (G_checked : FnOk P w K mg base (L2.CX P w) 3 f1 fd1 ["value", "highest"] (spChecked K N)) :
    FnOk P w K mg base (L2.CX P w) 4 f fd ["self", "done"] (spLock K C N) := by
  refine F.okX sc_pr_lock (fun vs H Q E h => ?_) (fun cdv A outer s H vs Q E hr h => ?_)
  · obtain ⟨r, x, ds, rfl, _⟩ := h
    rfl
  · obtain ⟨r, x, ds, rfl, ⟨dx, p, l, h1, h2, h3, h4, h5⟩, h⟩ := h
    refine ⟨_, pss_one (ps_ret (pe_ix ix_tup (pe_fld (pv 0) rfl) (pe_call G_checked hr (by rfl) g_checked F_checked.kp b_checked .nil (passX (takes_of rfl rfl rfl rfl)) (pa_cons (pv 1) (pa_cons (pe_callB call_len_seq (by rfl) T.m_len PySem.boot_len (pa_cons (pe_fld (pv 0) rfl) pa_nil)) pa_nil))) (fun _ _ => rfl))), ?_⟩
    obtain ⟨b, xs, eb, hs, ha, hl, h1000, hget⟩ := h2.tup
    cases eb
    refine ⟨_, rfl, r, C, dx, _, _, rfl, h1, CT.cl, CT.nL, rowF_l _ _, _, rfl, _, rfl, r, C, dx, _, _, rfl, h1, CT.cl, CT.nP, rowF_p _ _, p, xs, rfl, .inr hs, x, _, rfl, ?_⟩
    rw [hl]
    rcases h with ⟨n, rfl, hn, q⟩ | ⟨hno, q⟩
    · exact .inl ⟨n, rfl, is_ix hn, l, _, _, _, rfl, rfl, .inl (.inl h3), atI_nat (by rw [List.getElem?_map, lks_get (by omega)]; rfl), q⟩
    · exact .inr ⟨hno, q⟩
/-- is a step among the first n -/
def behindB (ds : List PyData) (n : Nat) (d : PyData) : Bool := isStepP d && (cutG ds none (some (n : Int))).any fun z => PyData.eqv z d
def spBehind (K : PySem.W.Frag) (C N : Addr) : Sp := fun vs H Q E => ∃ (r p : Addr) (x : V) (ds es : List PyData), vs = [.ref r, x, .ref p] ∧ RowAt K C H r ds ∧ Val K H (.ref p) (.tuple es) ∧ ((∃ n : Nat, x = .int n ∧ n ≤ ds.length ∧ ∀ H', Same H H' → Q (.bl (behindB ds n (.tuple es))) H') ∨
  (NoIx K H x (ds.length : Nat) ∧ ∀ (d : Addr) (H' : Hp), H d = none → Same H H' → H' d = some (.xd [("value", x)]) → E (.ref N) (some d) H'))
theorem sc_pr_behind : FnScope ["self", "done", "step", "many"] ["self", "done", "step"] (defScope sPR_behind) := ⟨rfl, rfl, rfl, by decide +kernel, rfl, by decide +kernel, by decide +kernel⟩
theorem ok_pr_behind {f : Addr} {fd : FuncData} (F : Fun K "is_behind" "PullRow.is_behind" sPR_behind f fd) (T : Txt K mg lt0 lt1 t4 t5 t6) (CT : ClT K mg C)
    {f1 : Addr} {fd1 : FuncData} (F_checked : Fun K "_checked" "_checked" s_checked f1 fd1) (b_checked : Binds K fd1 ["value", "highest"] []) (g_checked : mg "_checked" = some (.ref f1)) (G_checked : FnOk P w K mg base (L2.CX P w) 3 f1 fd1 ["value", "highest"] (spChecked K N))
    {f2 : Addr} {fd2 : FuncData} (F_is_step : Fun K "is_step" "is_step" s_is_step f2 fd2) (b_is_step : Binds K fd2 ["value"] []) (g_is_step : mg "is_step" = some (.ref f2)) (G_is_step : FnOk P w K mg base CX0 3 f2 fd2 ["value"] (spChk K isStepP)) :
    FnR P w K mg base (L2.CX P w) 4 f (spStar 2 (spBehind K C N)) := by
  refine Fun.star2 (p1 := "self") (p2 := "done") (pv := "step") F sc_pr_behind StX.cxUp (fun _ _ _ _ _ _ _ _ => rfl) (fun _ _ _ _ _ _ _ _ _ _ => rfl) (fun cdv A outer s H vs Q E hr h => ?_)
  obtain ⟨r, q, x, ds, es, rfl, ⟨dx, p, l, h1, h2, h3, h4, h5⟩, hv, h⟩ := h
  refine ⟨_, (pss_cons (ps_set (i := 3) sc_pr_behind.nd rfl (.inl rfl) (pe_call G_checked hr (by rfl) g_checked F_checked.kp b_checked .nil (passX (takes_of rfl rfl rfl rfl)) (pa_cons (pv 1) (pa_cons (pe_callB call_len_seq (by rfl) T.m_len PySem.boot_len (pa_cons (pe_fld (pv 0) rfl) pa_nil)) pa_nil))))
    (pss_one (ps_ret (pe_and (pe_call G_is_step hr (by rfl) g_is_step F_is_step.kp b_is_step .nil pass0 (pa_cons (pv 2) pa_nil)) (pe_one (pe_cmpR (op_inT (room65 hr)) (pv 2) (pe_slice sl_tupA (pe_fld (pv 0) rfl) po_none (po_some (pv 3))) (by rfl))))))), ?_⟩
  obtain ⟨b, xs, eb, hs, ha, hl, h1000, hget⟩ := h2.tup
  cases eb
  refine ⟨_, rfl, _, rfl, r, C, dx, _, _, rfl, h1, CT.cl, CT.nP, rowF_p _ _, p, xs, rfl, .inr hs, x, _, rfl, ?_⟩
  rw [hl]
  rcases h with ⟨n, rfl, hn, q⟩ | ⟨hno, q⟩
  · refine .inl ⟨n, rfl, is_ix hn, _, rfl, _, _, rfl, hv, fun H1 s1 => ⟨_, rfl, ite2 (fun g1 => ?_) (fun g1 => ?_)⟩⟩
    · refine ⟨_, rfl, _, rfl, r, C, dx, _, _, rfl, s1 _ _ h1, CT.cl, CT.nP, rowF_p _ _, _, rfl, _, rfl, slice0 (h2.same s1).dp.1 fun y H2 s2 hy => ?_⟩
      refine ⟨_, _, ((hv.same s1).same s2).dp.1, hy, hv.dp.2.lay (by decide), (good_cut (n := 59) h2.dp.2).lay (by decide), ?_⟩
      have := q H2 (s1.trans s2)
      unfold behindB at this
      rw [g1, Bool.true_and] at this
      exact this
    · have := q H1 s1
      unfold behindB at this
      rw [bf g1, Bool.false_and] at this
      exact this
  · exact .inr ⟨hno, q⟩
/-- the first place of a step -/
def firstV (ds : List PyData) (d : PyData) : V := if (isStepP d && ds.any fun z => PyData.eqv z d) = true then .int (ds.findIdx fun z => PyData.eqv z d : Nat) else .non
def spFirst (K : PySem.W.Frag) (C : Addr) : Sp := fun vs H Q _ => ∃ (r p : Addr) (ds es : List PyData), vs = [.ref r, .ref p] ∧ RowAt K C H r ds ∧ Val K H (.ref p) (.tuple es) ∧ ∀ H', Same H H' → Q (firstV ds (.tuple es)) H'
theorem find_first {ds : List PyData} {d : PyData} (h : (ds.any fun z => PyData.eqv z d) = true) : ∃ z, ds[ds.findIdx fun z => PyData.eqv z d]? = some z ∧ PyData.eqv z d = true ∧ ∀ (m : Nat) (z' : PyData), m < (ds.findIdx fun z => PyData.eqv z d) → ds[m]? = some z' → PyData.eqv z' d = false := by
  have hlt : (ds.findIdx fun z => PyData.eqv z d) < ds.length := by
    rw [List.findIdx_lt_length]
    obtain ⟨z, hz, hp⟩ := List.any_eq_true.mp h
    exact ⟨z, hz, hp⟩
  refine ⟨_, List.getElem?_eq_getElem hlt, List.findIdx_getElem (w := hlt), fun m z' hm hz' => ?_⟩
  have := List.not_of_lt_findIdx hm
  have hml : m < ds.length := by omega
  rw [List.getElem?_eq_getElem hml] at hz'
  have e : ds[m] = z' := Option.some.inj hz'
  rw [← e]
  simpa using this
theorem sc_pr_first : FnScope ["self", "step"] ["self", "step"] (defScope sPR_first) := ⟨rfl, rfl, rfl, by decide +kernel, rfl, by decide +kernel, by decide +kernel⟩
theorem ok_pr_first {f : Addr} {fd : FuncData} (F : Fun K "first" "PullRow.first" sPR_first f fd) (CT : ClT K mg C)
    {f2 : Addr} {fd2 : FuncData} (F_is_step : Fun K "is_step" "is_step" s_is_step f2 fd2) (b_is_step : Binds K fd2 ["value"] []) (g_is_step : mg "is_step" = some (.ref f2)) (G_is_step : FnOk P w K mg base CX0 3 f2 fd2 ["value"] (spChk K isStepP)) :
    FnR P w K mg base CX0 4 f (spStar 1 (spFirst K C)) := by
  refine Fun.star1 (p1 := "self") (pv := "step") F sc_pr_first StX.cxUp_none (fun _ _ _ _ _ _ _ => rfl) (fun _ _ _ _ _ _ _ _ _ => rfl) (fun cdv A outer s H vs Q E hr h => ?_)
  obtain ⟨r, q, ds, es, rfl, ⟨dx, p, l, h1, h2, h3, h4, h5⟩, hv, h⟩ := h
  refine ⟨_, pss_one (ps_ret (pe_ifExp (PW.pt (pw_and (pt_val (pe_call G_is_step hr (by rfl) g_is_step F_is_step.kp b_is_step .nil pass0 (pa_cons (pv 1) pa_nil))) (pw_and1 (pt_cmpR (op_inT (room65 hr)) (pv 1) (pe_fld (pv 0) rfl) (by rfl)))))
    (pe_tupM PySem.F.slot_tuple_index PySem.F.type_tuple_index (mt_tindexD (room65 hr)) (pe_fld (pv 0) rfl) (pa_cons (pv 1) pa_nil)) pe_non)), ?_⟩
  refine ⟨_, rfl, _, _, rfl, hv, fun H1 s1 => ⟨_, rfl, ite2 (fun g1 => ?_) (fun g1 => ?_)⟩⟩
  · refine ⟨_, rfl, _, rfl, r, C, dx, _, _, rfl, s1 _ _ h1, CT.cl, CT.nP, rowF_p _ _, _, _, (hv.same s1).dp.1, (h2.same s1).dp.1, hv.dp.2.lay (by decide), h2.dp.2.lay (by decide), _, rfl, ite2 (fun g2 => ?_) (fun g2 => ?_)⟩
    · obtain ⟨z, hz1, hz2, hz3⟩ := find_first g2
      obtain ⟨ob, ys, f1, f2, f3⟩ := h5.same s1
      refine ⟨_, rfl, r, C, dx, _, _, rfl, s1 _ _ h1, CT.cl, CT.nP, rowF_p _ _, p, ob, ys, rfl, f1, f2, f3, _, rfl, p, _, _, _, _, _, rfl, rfl, (h2.same s1).dp.1, (hv.same s1).dp.1, h2.dp.2.lay (by decide), hv.dp.2.lay (by decide), hz1, hz2, hz3, ?_⟩
      have := h H1 s1
      unfold firstV at this
      rw [if_pos (by rw [g1, g2]; rfl)] at this
      exact this
    · have := h H1 s1
      unfold firstV at this
      rw [if_neg (by rw [g1, bf g2]; decide)] at this
      exact this
  · have := h H1 s1
    unfold firstV at this
    rw [if_neg (by rw [bf g1]; simp)] at this
    exact this
end
end K06

namespace K06
open PySem PySem.Spec PyProof.Rows L2 TL GG OO
/-! ### the law's own going through the steps -/
theorem isW_eq {d : PyData} {z : Str} : isW d z = (z == headW d) := by
  rw [Bool.eq_iff_iff, beq_iff_eq, decide_eq_true_eq]
  exact ⟨fun h => (V.str.inj h).symm, fun h => by rw [h]⟩
theorem eqv_T1 {d : PyData} {z : Str} (h : isStepP d = true) (hz : z = "lock" ∨ z = "unlock") : PyData.eqv d (.tuple [.str z]) = isW d z := by
  unfold isStepP at h
  rcases Bool.or_eq_true_iff.mp h with h | h
  · match d, h with
    | .tuple [e], h =>
      obtain ⟨w, rfl⟩ := word_str (ws := wSteps) (d := e) h
      rw [Bool.eq_iff_iff, decide_eq_true_eq]
      have e1 := eqv_strs [w] [z]
      have e2 : PyData.eqv (.tuple [.str w]) (.tuple [.str z]) = PyData.eqvAll ([w].map PyData.str) ([z].map PyData.str) := rfl
      rw [e2, e1]
      exact ⟨fun q => by rw [List.cons.inj q |>.1]; rfl, fun q => by rw [V.str.inj (show V.str w = V.str z from q)]⟩
  · match d, h with
    | .tuple [e, g], h =>
      have h1 : isWordP wNSteps e = true := (Bool.and_eq_true_iff.mp h).1
      obtain ⟨w, rfl⟩ := word_str (ws := wNSteps) (d := e) h1
      have e2 : PyData.eqv (.tuple [.str w, g]) (.tuple [.str z]) = false := by
        show PyData.eqvAll [.str w, g] [.str z] = false
        simp [PyData.eqvAll]
      rw [e2]
      symm
      rw [decide_eq_false_iff_not]
      intro q
      have q : w = z := V.str.inj (show V.str w = V.str z from q)
      subst q
      have h2 : wNSteps.any (· == w) = true := h1
      rcases hz with rfl | rfl
      · exact absurd h2 (by decide +kernel)
      · exact absurd h2 (by decide +kernel)
theorem lockB_eq (ds : List PyData) (i : Nat) (d : PyData) : lockB ds i d = ((isW d "lock" && lkAt ds i) || (isW d "unlock" && !lkAt ds i)) := by
  have e1 : inV (.str (headW d)) [V.str "lock", .str "unlock"] = (isW d "lock" || isW d "unlock") := by
    have := inV_words (z := headW d) ["lock", "unlock"]
    rw [isW_eq, isW_eq]
    refine this.trans ?_
    simp
  have e2 : isW d "lock" = true → isW d "unlock" = false := fun h => by
    rw [decide_eq_true_eq] at h
    rw [decide_eq_false_iff_not, h]
    intro q
    exact absurd (V.str.inj q) (by decide +kernel)
  unfold lockB
  rw [e1]
  cases h1 : isW d "lock" with
  | true =>
    rw [e2 h1]
    cases lkAt ds i <;> simp
  | false =>
    cases h2 : isW d "unlock" <;> cases lkAt ds i <;> simp
theorem iteB {b c : Bool} {A B : Prop} (e : b = c) (h : if c = true then A else B) : if b = true then A else B := by
  rw [e]
  exact h
theorem eqT1 {K : PySem.W.Frag} {H6 : Hp} {v : V} {d : PyData} {z : Str} {Q : VK} (hd : Dp K H6 v d) (hs : SeqAt.shaped d = true) (hz : SeqAt.shaped (.tuple [.str z]) = true) (hq : ∀ H', Same H6 H' → Q (.bl (PyData.eqv d (.tuple [.str z]))) H') :
    [V.str z].length ≤ sizeLine ∧ ∀ p, H6 p = none → rEqD K v (.ref p) (upd H6 p (.tup [.str z])) Q :=
  ⟨(by show 1 ≤ sizeLine; decide), fun _ hp => ⟨d, _, dp_same (same_upd hp) _ _ hd, .tup (.inl (.inl upd_same)) (.cons (.str _) .nil), hs, hz, hq _ (same_upd hp)⟩⟩
theorem neT1 {K : PySem.W.Frag} {H6 : Hp} {v : V} {d : PyData} {z : Str} {Q : VK} (hd : Dp K H6 v d) (hs : SeqAt.shaped d = true) (hz : SeqAt.shaped (.tuple [.str z]) = true) (hq : ∀ H', Same H6 H' → Q (.bl (!PyData.eqv d (.tuple [.str z]))) H') :
    [V.str z].length ≤ sizeLine ∧ ∀ p, H6 p = none → rNeD K v (.ref p) (upd H6 p (.tup [.str z])) Q :=
  ⟨(by show 1 ≤ sizeLine; decide), fun _ hp => ⟨d, _, dp_same (same_upd hp) _ _ hd, .tup (.inl (.inl upd_same)) (.cons (.str _) .nil), hs, hz, hq _ (same_upd hp)⟩⟩
section
variable {P : Program} {w : World} {K : PySem.W.Frag} {mg : Str → Option Value} {base : Heap} {lt0 lt1 : Tok} {t4 t5 t6 : Addr} {S fS N fN C : Addr}
def spWrong (K : PySem.W.Frag) : Sp := fun vs H Q _ => ∃ (x : V) (ds : List PyData), vs = [x] ∧ LD K H x ds ∧ Good 60 (.list ds) ∧ ∀ H' p, Same H H' → H p = none → H' p = some (.lst (wrongV ds).toList) → Q (.ref p) H'
theorem sc_l_wrong : FnScope ["_law_steps", "_law_index", "_law_step", "_law_has"] ["_law_steps"] (defScope s_l_wrong) := ⟨rfl, rfl, rfl, by decide +kernel, rfl, by decide +kernel, by decide +kernel⟩
theorem ok_l_wrong {f : Addr} {fd : FuncData} (F : Fun K "_law_wrong" "_law_wrong" s_l_wrong f fd) (T : Txt K mg lt0 lt1 t4 t5 t6)
    {f1 : Addr} {fd1 : FuncData} (F_is_step : Fun K "is_step" "is_step" s_is_step f1 fd1) (b_is_step : Binds K fd1 ["value"] []) (g_is_step : mg "is_step" = some (.ref f1)) (G_is_step : FnOk P w K mg base CX0 3 f1 fd1 ["value"] (spChk K isStepP)) :
    FnOk P w K mg base CX0 4 f fd ["_law_steps"] (spWrong K) := by
  refine F.ok sc_l_wrong (fun vs H Q E h => ?_) (fun cdv A outer s H vs Q E hr h => ?_)
  · obtain ⟨x, ds, rfl, _⟩ := h
    rfl
  · obtain ⟨x, ds, rfl, ⟨b, xs, rfl, hs, ha⟩, hg, q⟩ := h
    refine ⟨_, (pss_cons (ps_for PassesOwn.never rfl (pi_enum (by rfl) T.m_enumerate (pa_cons (pv 0) pa_nil)) (pg_tup rfl (pgs_cons (pg_name (i := 1) sc_l_wrong.nd rfl (.inl rfl)) (pgs_cons (pg_name (i := 2) sc_l_wrong.nd rfl (.inl rfl)) pgs_nil))) 
      (pss_one (ps_if (pt_not (pt_val (pe_call G_is_step hr (by rfl) g_is_step F_is_step.kp b_is_step .nil pass0 (pa_cons (pv 2) pa_nil)))) 
        (pss_one (ps_ret (pe_lst (pa_cons (pv 1) pa_nil)))) pss_nil))) 
    (pss_cons (ps_if (pt_cmpR op_gt (pe_callB call_len_seq (by rfl) T.m_len PySem.boot_len (pa_cons (pv 0) pa_nil)) pe_int (nomark _)) 
      (pss_one (ps_ret (pe_lst (pa_cons pe_non pa_nil)))) pss_nil) 
    (pss_cons (ps_set (i := 3) sc_l_wrong.nd rfl (.inl rfl) pe_bl) 
    (pss_cons (ps_for PassesOwn.never rfl (pi_enum (by rfl) T.m_enumerate (pa_cons (pv 0) pa_nil)) (pg_tup rfl (pgs_cons (pg_name (i := 1) sc_l_wrong.nd rfl (.inl rfl)) (pgs_cons (pg_name (i := 2) sc_l_wrong.nd rfl (.inl rfl)) pgs_nil))) 
      (pss_cons (ps_if (PW.pt (pw_and (pt_cmpR op_in_seq (pe_ix ix_tup (pv 2) pe_int (fun _ _ => rfl)) (pe_lst (pa_cons pe_str (pa_cons pe_str (pa_cons pe_str (pa_cons pe_str pa_nil))))) (by rfl)) (pw_and1 (pt_cmpR (op_inD (room65 hr)) (pv 2) (pe_slice sl_list (pv 0) po_none (po_some (pv 1))) (by rfl))))) 
        (pss_one (ps_ret (pe_lst (pa_cons (pv 1) pa_nil)))) pss_nil) 
      (pss_cons (ps_if (PW.pt (pw_or (PW.pt (pw_and (pt_cmpR (op_eqD hr.units) (pv 2) (pe_tup (pa_cons pe_str pa_nil)) (nomark _)) (pw_and1 (pt_val (pv 3))))) (pw_or1 (PW.pt (pw_and (pt_cmpR (op_eqD hr.units) (pv 2) (pe_tup (pa_cons pe_str pa_nil)) (nomark _)) (pw_and1 (pt_not (pt_val (pv 3))))))))) 
        (pss_one (ps_ret (pe_lst (pa_cons (pv 1) pa_nil)))) pss_nil) 
      (pss_one (ps_set (i := 3) sc_l_wrong.nd rfl (.inl rfl) (pe_or (pe_cmpR (op_eqD hr.units) (pv 2) (pe_tup (pa_cons pe_str pa_nil)) (nomark _)) (pe_one (pe_and (pv 3) (pe_one (pe_cmpR (op_neD hr.units) (pv 2) (pe_tup (pa_cons pe_str pa_nil)) (nomark _))))))))))) 
    (pss_one (ps_ret (pe_lst pa_nil))))))), ?_⟩
    have hl := dpAll_len ha
    obtain ⟨h1000, hgd⟩ := (Good.lst (n := 59)).mp hg
    have hval : ∀ (i : Nat) (v : V) (d : PyData), xs[i]? = some v → ds[i]? = some d → Val K H v d := fun i v d h1 h2 => .inl ⟨dpAll_at ha h1 h2, (hgd d (List.mem_of_getElem? h2)).mono (by decide)⟩
    have fin : ∀ (v : V) (H1 : Hp), wrongV ds = some v → Same H H1 → ∀ p, H1 p = none → Q (.ref p) (upd H1 p (.lst [v])) := fun v H1 hw s1 p hp => q _ p (s1.trans (same_upd hp)) (s1.free hp) (by rw [upd_same, hw]; rfl)
    refine ⟨_, rfl, b, xs, rfl, .inl (.inl hs), for_it walk_enum (fun i σ H' => Same H H' ∧ (∀ j < i, stepBad ds j = false) ∧ ∃ y1 y2 y3 : Option V, σ = [some (.ref b), y1, y2, y3]) ⟨Same.refl H, fun j hj => absurd hj (Nat.not_lt_zero j), _, _, _, rfl⟩ (fun i σ H' _ h => .inl (.inl (h.1 _ _ hs))) ?_ ?_⟩
    · rintro i x σ H1 H1' hi ⟨s1, hb, y1, y2, y3, rfl⟩ ⟨t, u, v, rfl, ht, rfl, hu, hx⟩
      have eu : u = .int (i : Nat) := (Option.some.inj hu).symm
      subst eu
      have hid : i < ds.length := by omega
      have hdi : ds[i]? = some ds[i] := List.getElem?_eq_getElem hid
      have hvd := hval i v _ hx hdi
      have s2 : Same H (upd H1 t (.tup [.int (i : Nat), v])) := s1.trans (same_upd ht)
      refine ⟨t, _, rfl, .inl (.inl upd_same), rfl, _, _, rfl, _, _, rfl, ?_⟩
      refine ⟨rfl, _, rfl, v, ds[i], rfl, hvd.same s2, fun H3 s3 => ⟨_, rfl, ite2 (fun h1 => ?_) (fun h1 => ?_)⟩⟩
      · have e1 : stepBad ds i = true := by
          unfold stepBad
          rw [hdi]
          exact h1
        exact ⟨_, rfl, (by show 1 ≤ sizeLine; decide), fin _ _ (wrong_step hb hid e1) (s2.trans s3)⟩
      · have e1 : stepBad ds i = false := by
          unfold stepBad
          rw [hdi]
          exact bf h1
        refine ⟨s2.trans s3, fun j hj => ?_, _, _, _, rfl⟩
        by_cases hj2 : j < i
        · exact hb j hj2
        · have e : j = i := by omega
          rw [e]
          exact e1
    · rintro σ H1 ⟨s1, hb, y1, y2, y3, rfl⟩
      rw [hl] at hb
      refine ⟨_, rfl, b, xs, rfl, .inl (.inl (.inl (s1 _ _ hs))), _, _, rfl, rfl, _, rfl, ite2 (fun h9 => ?_) (fun h9 => ?_)⟩
      · have h9 : (9 : Int) < xs.length := of_decide_eq_true h9
        exact ⟨(by show 1 ≤ sizeLine; decide), fin _ _ (wrong_long hb (by omega)) s1⟩
      have h9 : ¬ 9 < ds.length := fun z => h9 (decide_eq_true (by omega))
      refine ⟨_, rfl, b, xs, rfl, .inl (.inl (s1 _ _ hs)), for_it walk_enum (fun i σ H' => Same H H' ∧ (∀ j < i, badAt ds j = false) ∧ ∃ y1 y2 : Option V, σ = [some (.ref b), y1, y2, some (.bl (lkAt ds i))]) ⟨s1, fun j hj => absurd hj (Nat.not_lt_zero j), _, _, rfl⟩ (fun i σ H' _ h => .inl (.inl (h.1 _ _ hs))) ?_ ?_⟩
      · rintro i x σ H3 H3' hi ⟨s3, hbb, y1, y2, rfl⟩ ⟨t, u, v, rfl, ht, rfl, hu, hx⟩
        have eu : u = .int (i : Nat) := (Option.some.inj hu).symm
        subst eu
        have hid : i < ds.length := by omega
        have hdi : ds[i]? = some ds[i] := List.getElem?_eq_getElem hid
        have hvd := hval i v _ hx hdi
        have hst := all_steps hb (List.mem_of_getElem? hdi)
        obtain ⟨a, zs, rfl, hq, hz⟩ := step_word hvd hst
        have hgi := (hgd _ (List.mem_of_getElem? hdi)).lay (by decide)
        have s5 : Same H (upd H3 t (.tup [.int (i : Nat), .ref a])) := s3.trans (same_upd ht)
        have e0 : badAt ds i = (onceB ds i ds[i] || lockB ds i ds[i]) := by
          unfold badAt
          rw [hdi]
        have wr : badAt ds i = true → wrongV ds = some (.int i) := fun e1 => wrong_bad hb h9 hbb hid e1
        refine ⟨t, _, rfl, .inl (.inl upd_same), rfl, _, _, rfl, _, _, rfl, ?_⟩
        refine ⟨rfl, _, rfl, a, zs, _, _, rfl, rfl, Same.seqT s5 hq, hz, (by show 4 ≤ sizeLine; decide), fun o ho => ?_⟩
        have s6 := s5.trans (same_upd (o := .lst [V.str "out", V.str "down", V.str "let", V.str "mark"]) ho)
        have e4 : inV (.str (headW ds[i])) [V.str "out", V.str "down", V.str "let", V.str "mark"] = inV (.str (headW ds[i])) (wOnce.map V.str) := rfl
        have dv : ∀ H9, Same H H9 → Dp K H9 (.ref a) ds[i] := fun H9 s9 => dp_same s9 _ _ (dpAll_at ha hx hdi)
        have hsucc : lkAt ds (i + 1) = lkB (lkAt ds i) ds[i] := lkAt_succ hdi
        unfold lkB at hsucc
        have eL : PyData.eqv ds[i] (.tuple [.str "lock"]) = isW ds[i] "lock" := eqv_T1 hst (.inl rfl)
        have eU : PyData.eqv ds[i] (.tuple [.str "unlock"]) = isW ds[i] "unlock" := eqv_T1 hst (.inr rfl)
        have shL : SeqAt.shaped (.tuple [.str "lock"]) = true := by decide +kernel
        have shU : SeqAt.shaped (.tuple [.str "unlock"]) = true := by decide +kernel
        have no : ∀ (c : Bool) (H9 : Hp), Same H H9 → onceB ds i ds[i] = false → lockB ds i ds[i] = false → lkAt ds (i + 1) = c → Same H H9 ∧ (∀ j < i + 1, badAt ds j = false) ∧ ∃ y1 y2 : Option V, [some (V.ref b), some (.int (i : Nat)), some (.ref a), some (.bl c)] = [some (.ref b), y1, y2, some (.bl (lkAt ds (i + 1)))] := fun c H9 s9 ho hlk hc => by
          refine ⟨s9, fun j hj => ?_, _, _, by rw [hc]⟩
          by_cases hj2 : j < i
          · exact hbb j hj2
          · have e : j = i := by omega
            rw [e, e0, ho, hlk]
            rfl
        refine ⟨o, _, rfl, .inl (.inl (.inl upd_same)), rfl, flat_words wOnce, _, rfl, ite2 (fun h1 => ?_) (fun h1 => ?_)⟩
        · have h1 : inV (.str (headW ds[i])) (wOnce.map V.str) = true := h1
          refine ⟨_, rfl, _, rfl, _, rfl, _, rfl, b, xs, rfl, .inl (.inl (s6 _ _ hs)), fun p1 hp1 => ?_⟩
          have s7 := s6.trans (same_upd (o := .lst (cutV xs none (some (i : Int)))) hp1)
          refine ⟨ds[i], _, dv _ s7, .lst (.inl (.inl upd_same)) (dpAll_same s7 _ _ (dpAll_cut ha none (some (i : Int)))), hgi, (show Good 60 (.tuple (cutG ds none (some (i : Int)))) from good_cut (n := 59) hg).lay (by decide), _, rfl, ite2 (fun h2 => ?_) (fun h2 => ?_)⟩
          · have e1 : onceB ds i ds[i] = true := by
              unfold onceB
              rw [h1, show ((cutG ds none (some (i : Int))).any fun z => PyData.eqv z ds[i]) = true from h2]
              rfl
            exact ⟨_, rfl, (by show 1 ≤ sizeLine; decide), fin _ _ (wr (by rw [e0, e1]; rfl)) s7⟩
          have ho1 : onceB ds i ds[i] = false := by
            unfold onceB
            rw [show ((cutG ds none (some (i : Int))).any fun z => PyData.eqv z ds[i]) = false from bf h2, Bool.and_false]
          replace no := fun c H9 s9 => no c H9 s9 ho1
          replace s6 := s7
          clear h2 h1
          cases hL : isW ds[i] "lock" <;> cases hU : isW ds[i] "unlock" <;> (generalize hB : lkAt ds i = B0 at hsucc ⊢) <;> cases B0 <;> rw [hL] at eL hsucc <;> rw [hU] at eU hsucc
          · exact ⟨_, rfl, eqT1 (dv _ s6) hgi shL fun H7 s7 => ⟨_, rfl, iteB eL (iteF ⟨_, rfl, eqT1 (dv _ (s6.trans s7)) hgi shU fun H8 s8 => ⟨_, rfl, iteB eU (iteF ⟨_, rfl, eqT1 (dv _ ((s6.trans s7).trans s8)) hgi shL fun H8n s8n => ⟨_, rfl, iteB eL (iteF ⟨_, rfl, _, rfl, no _ _ (((s6.trans s7).trans s8).trans s8n) (by rw [lockB_eq, hL, hU, hB]; rfl) (by rw [hsucc]; rfl)⟩)⟩⟩)⟩⟩)⟩⟩
          · exact ⟨_, rfl, eqT1 (dv _ s6) hgi shL fun H7 s7 => ⟨_, rfl, iteB eL (iteF ⟨_, rfl, eqT1 (dv _ (s6.trans s7)) hgi shU fun H8 s8 => ⟨_, rfl, iteB eU (iteF ⟨_, rfl, eqT1 (dv _ ((s6.trans s7).trans s8)) hgi shL fun H8n s8n => ⟨_, rfl, iteB eL (iteF ⟨_, rfl, _, rfl, _, rfl, neT1 (dv _ (((s6.trans s7).trans s8).trans s8n)) hgi shU fun H8nx s8nx => no _ _ ((((s6.trans s7).trans s8).trans s8n).trans s8nx) (by rw [lockB_eq, hL, hU, hB]; rfl) (by rw [hsucc, eU]; rfl)⟩)⟩⟩)⟩⟩)⟩⟩
          · exact ⟨_, rfl, eqT1 (dv _ s6) hgi shL fun H7 s7 => ⟨_, rfl, iteB eL (iteF ⟨_, rfl, eqT1 (dv _ (s6.trans s7)) hgi shU fun H8 s8 => ⟨_, rfl, iteB eU (iteT ⟨_, rfl, _, rfl, ⟨_, rfl, (by show 1 ≤ sizeLine; decide), fin _ _ (wr (by rw [e0, lockB_eq, hL, hU, hB]; simp)) ((s6.trans s7).trans s8)⟩⟩)⟩⟩)⟩⟩
          · exact ⟨_, rfl, eqT1 (dv _ s6) hgi shL fun H7 s7 => ⟨_, rfl, iteB eL (iteF ⟨_, rfl, eqT1 (dv _ (s6.trans s7)) hgi shU fun H8 s8 => ⟨_, rfl, iteB eU (iteT ⟨_, rfl, _, rfl, ⟨_, rfl, eqT1 (dv _ ((s6.trans s7).trans s8)) hgi shL fun H8n s8n => ⟨_, rfl, iteB eL (iteF ⟨_, rfl, _, rfl, _, rfl, neT1 (dv _ (((s6.trans s7).trans s8).trans s8n)) hgi shU fun H8nx s8nx => no _ _ ((((s6.trans s7).trans s8).trans s8n).trans s8nx) (by rw [lockB_eq, hL, hU, hB]; rfl) (by rw [hsucc, eU]; rfl)⟩)⟩⟩⟩)⟩⟩)⟩⟩
          · exact ⟨_, rfl, eqT1 (dv _ s6) hgi shL fun H7 s7 => ⟨_, rfl, iteB eL (iteT ⟨_, rfl, _, rfl, ⟨_, rfl, eqT1 (dv _ (s6.trans s7)) hgi shU fun H8 s8 => ⟨_, rfl, iteB eU (iteF ⟨_, rfl, eqT1 (dv _ ((s6.trans s7).trans s8)) hgi shL fun H8n s8n => ⟨_, rfl, iteB eL (iteT (no _ _ (((s6.trans s7).trans s8).trans s8n) (by rw [lockB_eq, hL, hU, hB]; rfl) (by rw [hsucc]; rfl)))⟩⟩)⟩⟩⟩)⟩⟩
          · exact ⟨_, rfl, eqT1 (dv _ s6) hgi shL fun H7 s7 => ⟨_, rfl, iteB eL (iteT ⟨_, rfl, _, rfl, ⟨_, rfl, (by show 1 ≤ sizeLine; decide), fin _ _ (wr (by rw [e0, lockB_eq, hL, hU, hB]; simp)) (s6.trans s7)⟩⟩)⟩⟩
          · exact ⟨_, rfl, eqT1 (dv _ s6) hgi shL fun H7 s7 => ⟨_, rfl, iteB eL (iteT ⟨_, rfl, _, rfl, ⟨_, rfl, eqT1 (dv _ (s6.trans s7)) hgi shU fun H8 s8 => ⟨_, rfl, iteB eU (iteT ⟨_, rfl, _, rfl, ⟨_, rfl, (by show 1 ≤ sizeLine; decide), fin _ _ (wr (by rw [e0, lockB_eq, hL, hU, hB]; simp)) ((s6.trans s7).trans s8)⟩⟩)⟩⟩⟩)⟩⟩
          · exact ⟨_, rfl, eqT1 (dv _ s6) hgi shL fun H7 s7 => ⟨_, rfl, iteB eL (iteT ⟨_, rfl, _, rfl, ⟨_, rfl, (by show 1 ≤ sizeLine; decide), fin _ _ (wr (by rw [e0, lockB_eq, hL, hU, hB]; simp)) (s6.trans s7)⟩⟩)⟩⟩
        · have ho1 : onceB ds i ds[i] = false := by
            unfold onceB
            rw [show inV (.str (headW ds[i])) (wOnce.map V.str) = false from bf h1, Bool.false_and]
          replace no := fun c H9 s9 => no c H9 s9 ho1
          cases hL : isW ds[i] "lock" <;> cases hU : isW ds[i] "unlock" <;> (generalize hB : lkAt ds i = B0 at hsucc ⊢) <;> cases B0 <;> rw [hL] at eL hsucc <;> rw [hU] at eU hsucc
          · exact ⟨_, rfl, eqT1 (dv _ s6) hgi shL fun H7 s7 => ⟨_, rfl, iteB eL (iteF ⟨_, rfl, eqT1 (dv _ (s6.trans s7)) hgi shU fun H8 s8 => ⟨_, rfl, iteB eU (iteF ⟨_, rfl, eqT1 (dv _ ((s6.trans s7).trans s8)) hgi shL fun H8n s8n => ⟨_, rfl, iteB eL (iteF ⟨_, rfl, _, rfl, no _ _ (((s6.trans s7).trans s8).trans s8n) (by rw [lockB_eq, hL, hU, hB]; rfl) (by rw [hsucc]; rfl)⟩)⟩⟩)⟩⟩)⟩⟩
          · exact ⟨_, rfl, eqT1 (dv _ s6) hgi shL fun H7 s7 => ⟨_, rfl, iteB eL (iteF ⟨_, rfl, eqT1 (dv _ (s6.trans s7)) hgi shU fun H8 s8 => ⟨_, rfl, iteB eU (iteF ⟨_, rfl, eqT1 (dv _ ((s6.trans s7).trans s8)) hgi shL fun H8n s8n => ⟨_, rfl, iteB eL (iteF ⟨_, rfl, _, rfl, _, rfl, neT1 (dv _ (((s6.trans s7).trans s8).trans s8n)) hgi shU fun H8nx s8nx => no _ _ ((((s6.trans s7).trans s8).trans s8n).trans s8nx) (by rw [lockB_eq, hL, hU, hB]; rfl) (by rw [hsucc, eU]; rfl)⟩)⟩⟩)⟩⟩)⟩⟩
          · exact ⟨_, rfl, eqT1 (dv _ s6) hgi shL fun H7 s7 => ⟨_, rfl, iteB eL (iteF ⟨_, rfl, eqT1 (dv _ (s6.trans s7)) hgi shU fun H8 s8 => ⟨_, rfl, iteB eU (iteT ⟨_, rfl, _, rfl, ⟨_, rfl, (by show 1 ≤ sizeLine; decide), fin _ _ (wr (by rw [e0, lockB_eq, hL, hU, hB]; simp)) ((s6.trans s7).trans s8)⟩⟩)⟩⟩)⟩⟩
          · exact ⟨_, rfl, eqT1 (dv _ s6) hgi shL fun H7 s7 => ⟨_, rfl, iteB eL (iteF ⟨_, rfl, eqT1 (dv _ (s6.trans s7)) hgi shU fun H8 s8 => ⟨_, rfl, iteB eU (iteT ⟨_, rfl, _, rfl, ⟨_, rfl, eqT1 (dv _ ((s6.trans s7).trans s8)) hgi shL fun H8n s8n => ⟨_, rfl, iteB eL (iteF ⟨_, rfl, _, rfl, _, rfl, neT1 (dv _ (((s6.trans s7).trans s8).trans s8n)) hgi shU fun H8nx s8nx => no _ _ ((((s6.trans s7).trans s8).trans s8n).trans s8nx) (by rw [lockB_eq, hL, hU, hB]; rfl) (by rw [hsucc, eU]; rfl)⟩)⟩⟩⟩)⟩⟩)⟩⟩
          · exact ⟨_, rfl, eqT1 (dv _ s6) hgi shL fun H7 s7 => ⟨_, rfl, iteB eL (iteT ⟨_, rfl, _, rfl, ⟨_, rfl, eqT1 (dv _ (s6.trans s7)) hgi shU fun H8 s8 => ⟨_, rfl, iteB eU (iteF ⟨_, rfl, eqT1 (dv _ ((s6.trans s7).trans s8)) hgi shL fun H8n s8n => ⟨_, rfl, iteB eL (iteT (no _ _ (((s6.trans s7).trans s8).trans s8n) (by rw [lockB_eq, hL, hU, hB]; rfl) (by rw [hsucc]; rfl)))⟩⟩)⟩⟩⟩)⟩⟩
          · exact ⟨_, rfl, eqT1 (dv _ s6) hgi shL fun H7 s7 => ⟨_, rfl, iteB eL (iteT ⟨_, rfl, _, rfl, ⟨_, rfl, (by show 1 ≤ sizeLine; decide), fin _ _ (wr (by rw [e0, lockB_eq, hL, hU, hB]; simp)) (s6.trans s7)⟩⟩)⟩⟩
          · exact ⟨_, rfl, eqT1 (dv _ s6) hgi shL fun H7 s7 => ⟨_, rfl, iteB eL (iteT ⟨_, rfl, _, rfl, ⟨_, rfl, eqT1 (dv _ (s6.trans s7)) hgi shU fun H8 s8 => ⟨_, rfl, iteB eU (iteT ⟨_, rfl, _, rfl, ⟨_, rfl, (by show 1 ≤ sizeLine; decide), fin _ _ (wr (by rw [e0, lockB_eq, hL, hU, hB]; simp)) ((s6.trans s7).trans s8)⟩⟩)⟩⟩⟩)⟩⟩
          · exact ⟨_, rfl, eqT1 (dv _ s6) hgi shL fun H7 s7 => ⟨_, rfl, iteB eL (iteT ⟨_, rfl, _, rfl, ⟨_, rfl, (by show 1 ≤ sizeLine; decide), fin _ _ (wr (by rw [e0, lockB_eq, hL, hU, hB]; simp)) (s6.trans s7)⟩⟩)⟩⟩
      · rintro σ H3 ⟨s3, hbb, y1, y2, rfl⟩
        rw [hl] at hbb
        refine ⟨Nat.zero_le _, fun p hp => q _ p (s3.trans (same_upd hp)) (s3.free hp) ?_⟩
        rw [upd_same, wrong_none hb h9 hbb]
        rfl
end
end K06

namespace K06
open PySem PySem.Spec PyProof.Rows L2 TL GG OO
theorem lk1 (f : Str) (v : V) : ([(f, v)] : List (Str × V)).lookup f = some v := by simp [List.lookup]
section
variable {P : Program} {w : World} {K : PySem.W.Frag} {mg : Str → Option Value} {base : Heap} {lt0 lt1 : Tok} {t4 t5 t6 : Addr} {S fS N fN C : Addr}
def spHeard (K : PySem.W.Frag) (C : Addr) : Sp := fun vs H Q _ => ∃ (x : V) (d : PyData), vs = [x] ∧ Val K H x d ∧ (∀ ds, rowOf d = some ds → wrongV ds = none → ∀ H' r l, Same H H' → H l = none → RowAt K C H' r ds → H' l = some (.lst [.ref r]) → Q (.ref l) H') ∧
  ∀ v, wrongO d = some v → ∀ H', Same H H' → Q v H'
theorem sc_l_heard : FnScope ["_law_steps", "e"] ["_law_steps"] (defScope s_l_heard) := ⟨rfl, rfl, rfl, by decide +kernel, rfl, by decide +kernel, by decide +kernel⟩
theorem ok_l_heard {f : Addr} {fd : FuncData} (F : Fun K "_law_heard" "_law_heard" s_l_heard f fd) (CT : ClT K mg C) (TS : ExT K mg "InvalidStep" "index" S fS) {mc : Value} (RD : ClX.CRead K C mc) {sm fO : Addr} (SM : SMet K C mc "of" sm fO)
    {fdO : FuncData} (bO : Binds K fdO ["steps"] []) (GO : FnOk P w K mg base (L2.CX P w) 7 fO fdO ["steps"] (spOf K C S)) : FnOk P w K mg base CX0 8 f fd ["_law_steps"] (spHeard K C) := by
  have RO : FnR P w K mg base (L2.CX P w) 7 fO (spOf K C S) := (GO.raw bO .nil).imp fun vs H Q E h => by
    rw [List.append_nil]
    exact h
  refine F.ok sc_l_heard (fun vs H Q E h => ?_) (fun cdv A outer s H vs Q E hr h => ?_)
  · obtain ⟨x, d, rfl, _⟩ := h
    rfl
  · obtain ⟨x, d, rfl, hv, q, qe⟩ := h
    refine ⟨_, pss_one (ps_try_as (i := 1) (Wout := fun _ _ _ _ => False) rfl rfl sc_l_heard.nd rfl rfl ⟨rfl, by decide, .inl TS.g⟩ takes0
      (fun W pn xe tk _ => pss_one (ps_ret (pe_lst (pa_cons (by exact (pe_smethS (E := WE W) (pe_glob (v := .ref C) rfl CT.mgC rfl) RD SM RO hr (fun σ => passAt tk σ) (pa_cons (pv 0) pa_nil))) pa_nil))))
      (fun a oe cls d pn hz hf => pss_one (ps_ret (pe_xf TS.x TS.no hz hf (pv 1))))), ?_⟩
    refine ⟨rfl, _, rfl, x, d, rfl, hv, fun ds e hw H1 r s1 _ row => ⟨(by show 1 ≤ sizeLine; decide), fun l hl => q ds e hw _ r l (s1.trans (same_upd hl)) (s1.free hl) (row.same (same_upd hl)) upd_same⟩, fun v hw a H1 h1 s1 hd => ?_⟩
    exact ⟨true, TS.te, fun _ b hb => ⟨_, rfl, rfl, rfl, a, _, v, rfl, hd, lk1 _ _, qe v hw H1 s1⟩, fun z => nomatch z⟩
/-! ### numbers that are none -/
def spRefused (K : PySem.W.Frag) (C : Addr) : Sp := fun vs H Q _ => ∃ (r : Addr) (v : V) (z : Str) (ds : List PyData), vs = [.ref r, v] ∧ RowAt K C H r ds ∧ (∀ H', NoIx K H' v (ds.length : Nat)) ∧ reprV v = some z ∧ okD (.str z) = true ∧ (∀ i, v = .int i → i.natAbs.log2 < 1920) ∧ (∀ y, v = .str y → (reprText y).length ≤ sizeLine) ∧ ∀ H', Same H H' → Q (.bl true) H'
/-- the readings of the try, by their names -/
def tsR (K : PySem.W.Frag) (N : Addr) : Addr → Value → Option Addr → TS := fun a cls d => tDrop (tBM K "list" rAppend (tVar 2) (tCons (tCB rRepr (tCons (tXf a cls d N "value" (tVar 4)) tNil)) tNil))
def tbR (K : PySem.W.Frag) (C N : Addr) : WX → TS := fun W => tIfS (tTest (tOp rEq (tVar 3) (tC (.int 0)))) (tDrop (tMethRS C "has_lock" (spLock K C N) (WE W) (tVar 0) (tCons (tVar 1) tNil))) (tDrop (tMethRS C "is_behind" (spStar 2 (spBehind K C N)) (WE W) (tVar 0) (tCons (tVar 1) (tCons (tC (.str "out")) tNil))))
def tTR (K : PySem.W.Frag) (C N : Addr) : TS := fun D σ H => tbR K C N (wAs K (.ref N) 4 (tsR K N) (fun _ _ _ _ => False) D) D σ H
theorem sc_l_refused : FnScope ["_law_row", "_law_value", "_law_found", "_law_way", "e"] ["_law_row", "_law_value"] (defScope s_l_refused) := ⟨rfl, rfl, rfl, by decide +kernel, rfl, by decide +kernel, by decide +kernel⟩
theorem ok_l_refused {f : Addr} {fd : FuncData} (F : Fun K "_law_refused" "_law_refused" s_l_refused f fd) (T : Txt K mg lt0 lt1 t4 t5 t6) (CT : ClT K mg C) (TN : ExT K mg "InvalidNumber" "value" N fN)
    {fL fB : Addr} {fdL : FuncData} (ML : Meth K C "has_lock" fL) (bL : Binds K fdL ["self", "done"] []) (GL : FnOk P w K mg base (L2.CX P w) 4 fL fdL ["self", "done"] (spLock K C N)) (MB : Meth K C "is_behind" fB) (RB : FnR P w K mg base (L2.CX P w) 4 fB (spStar 2 (spBehind K C N))) :
    FnOk P w K mg base CX0 5 f fd ["_law_row", "_law_value"] (spRefused K C) := by
  have RL : FnR P w K mg base (L2.CX P w) 4 fL (spLock K C N) := (GL.raw bL .nil).imp fun vs H Q E h => by
    rw [List.append_nil]
    exact h
  refine F.ok sc_l_refused (fun vs H Q E h => ?_) (fun cdv A outer s H vs Q E hr h => ?_)
  · obtain ⟨r, v, z, ds, rfl, _⟩ := h
    rfl
  · obtain ⟨r, v, z, ds, rfl, row, hno, hz, hok, hi, hs, q⟩ := h
    refine ⟨_, (pss_cons (ps_set (i := 2) sc_l_refused.nd rfl (.inl rfl) (pe_lst pa_nil)) 
      (pss_cons (ps_for PassesOwn.never rfl (pi_range1 rfl T.m_range (pa_cons pe_int pa_nil)) (pg_name (i := 3) sc_l_refused.nd rfl (.inl rfl)) 
        (pss_one (show PS _ _ (tTR K C N) from (ps_try_as (i := 4) (tb := tbR K C N) (ts := tsR K N) (Wout := fun _ _ _ _ => False) rfl rfl sc_l_refused.nd rfl rfl ⟨rfl, by decide, .inl TN.g⟩ takes0
          (fun W pn xe tk _ => pss_one (ps_if (pt_cmpR op_eq (pv 3) pe_int (nomark _)) 
            (pss_one (ps_expr (by exact (pe_methRS (E := WE W) (pv 0) CT.cl ML RL hr (fun σ => passAt tk σ) (pa_cons (pv 1) pa_nil))))) 
            (pss_one (ps_expr (by exact (pe_methRS (E := WE W) (pv 0) CT.cl MB RB hr (fun σ => passAt tk σ) (pa_cons (pv 1) (pa_cons pe_str pa_nil))))))))
          (fun a oe cls d pn hzc hf => pss_one (ps_expr (by exact (pe_bm PySem.F.plainAttrs_list PySem.F.slot_list_append PySem.F.type_list_append mt_append (pv 2) (by exact (pa_cons (pe_callB call_reprF (by rfl) T.m_repr (by decide +kernel) (by exact (pa_cons (pe_xf TN.x TN.no hzc hf (pv 4)) pa_nil))) pa_nil)))))))))) 
      (pss_one (ps_ret (pe_cmpR (op_eqD hr.units) (pv 2) (pe_op op_rep (pe_lst (pa_cons (pe_callB call_reprF (by rfl) T.m_repr (by decide +kernel) (pa_cons (pv 1) pa_nil)) pa_nil)) pe_int) (nomark _)))))), ?_⟩
    refine ⟨Nat.zero_le _, fun p hp => ?_⟩
    have s0 : Same H (upd H p (.lst [])) := same_upd hp
    refine ⟨2, rfl, by decide, by decide, for_range (lo := 0) (fun i σ H' => Same H H' ∧ H' p = some (.lst (List.replicate i (.str z))) ∧ ∃ y1 y2 : Option V, σ = [some (.ref r), some v, some (.ref p), y1, y2]) ⟨s0, upd_same, _, _, rfl⟩ ?_ ?_⟩
    · rintro i σ H1 hlt ⟨s1, hp1, y1, y2, rfl⟩
      have hlt : i < 2 := hlt
      have suite : ∀ (H2 : Hp) (d : Addr), Same H1 H2 → H2 d = some (.xd [("value", v)]) → Same H (upd H2 p (.lst (List.replicate i (V.str z) ++ [.str z]))) ∧ upd H2 p (.lst (List.replicate i (V.str z) ++ [.str z])) p = some (.lst (List.replicate (i + 1) (.str z))) := fun H2 d s2 _ =>
        ⟨same_st (s1.trans s2) hp, by rw [upd_same, List.replicate_succ']⟩
      obtain ⟨dx, pp, l, h1, h2, h3, h4, h5⟩ := row.same s1
      refine ⟨_, rfl, rfl, _, rfl, ite2 (fun hw => ?_) (fun hw => ?_)⟩
      · refine ⟨_, rfl, r, dx, _, rfl, h1, rowF_no _ _ (by decide +kernel) (by decide +kernel), _, rfl, r, v, ds, rfl, ⟨dx, pp, l, h1, h2, h3, h4, h5⟩, .inr ⟨hno _, fun d H2 hd s2 he => ?_⟩⟩
        refine ⟨true, TN.te, fun _ b hb => ?_, fun z => nomatch z⟩
        obtain ⟨g1, g2⟩ := suite H2 d s2 he
        exact ⟨_, rfl, .inl ⟨rfl, _, .inl (.inl (s2 _ _ hp1))⟩, _, rfl, rfl, rfl, d, _, v, rfl, he, lk1 _ _, v, z, rfl, hz, hi, hs, p, _, _, rfl, rfl, s2 _ _ hp1, small1000 (by rw [List.length_replicate]; omega), g1, g2, _, _, rfl⟩
      · refine ⟨_, rfl, r, dx, _, rfl, h1, rowF_no _ _ (by decide +kernel) (by decide +kernel), _, rfl, [.ref r, v], [.str "out"], rfl, rfl, (by show 1 ≤ sizeLine; decide), fun t ob ht hcl hob => ?_⟩
        have s2 : Same H1 (upd H1 t (.frz ob (.tup [.str "out"]))) := same_upd ht
        refine ⟨r, t, v, ds, [.str "out"], rfl, RowAt.same ⟨dx, pp, l, h1, h2, h3, h4, h5⟩ s2, .inl ⟨.tup (.inl (.inr ⟨ob, upd_same⟩)) (.cons (.str _) .nil), by constructor <;> decide +kernel⟩, .inr ⟨hno _, fun d H2 hd s3 he => ?_⟩⟩
        have s3 := s2.trans s3
        refine ⟨true, TN.te, fun _ b hb => ?_, fun z => nomatch z⟩
        obtain ⟨g1, g2⟩ := suite H2 d s3 he
        exact ⟨_, rfl, .inl ⟨rfl, _, .inl (.inl (s3 _ _ hp1))⟩, _, rfl, rfl, rfl, d, _, v, rfl, he, lk1 _ _, v, z, rfl, hz, hi, hs, p, _, _, rfl, rfl, s3 _ _ hp1, small1000 (by rw [List.length_replicate]; omega), g1, g2, _, _, rfl⟩
    · rintro σ H1 ⟨s1, hp1, y1, y2, rfl⟩
      refine ⟨_, rfl, _, rfl, v, z, rfl, hz, hi, hs, (by show 1 ≤ sizeLine; decide), fun l1 hl1 => ⟨l1, 2, _, rfl, rfl, upd_same, by decide, by decide, (by show 1 * 2 ≤ sizeLine; decide), fun l2 hl2 => ?_⟩⟩
      have s2 : Same H1 (upd (upd H1 l1 (.lst [V.str z])) l2 (.lst (List.replicate (2 : Int).toNat [V.str z]).flatten)) := (same_upd hl1).trans (same_upd hl2)
      have sh : SeqAt.shaped (.list [.str z, .str z]) = true := by
        have g : Good 3 (.list [.str z, .str z]) := Good.lst.mpr ⟨by show 2 ≤ 1000; decide, fun d hd => by
          have : d = .str z := by simpa using hd
          rw [this]
          exact ⟨hok, Nat.zero_le _⟩⟩
        exact g.lay (by decide)
      refine ⟨.list [.str z, .str z], .list [.str z, .str z], .lst (.inl (.inl (s2 _ _ hp1))) (.cons (.str _) (.cons (.str _) .nil)), .lst (.inl (.inl upd_same)) (.cons (.str _) (.cons (.str _) .nil)), sh, sh, ?_⟩
      have e : PyData.eqv (.list [.str z, .str z]) (.list [.str z, .str z]) = true := SeqAt.eqv_refl _ (SeqAt.canLay_of_shaped sh)
      rw [e]
      exact q _ (s1.trans s2)
end
end K06

namespace K06
open PySem PySem.Spec PyProof.Rows L2 TL GG OO
/-! ### locks taken and given, counted -/
theorem count_snoc (z : Str) (y : PyData) : ∀ xs : List PyData, countIn (.str z) (xs ++ [y]) = countIn (.str z) xs + (if same y (.str z) = true then 1 else 0)
  | [] => by
    show (if same y (.str z) then (1 : Int) else 0) + 0 = 0 + _
    omega
  | x :: xs => by
    show (if same x (.str z) then (1 : Int) else 0) + countIn (.str z) (xs ++ [y]) = (if same x (.str z) then (1 : Int) else 0) + countIn (.str z) xs + _
    rw [count_snoc z y xs]
    omega
theorem same_str (a b : Str) : same (.str a) (.str b) = (a == b) := rfl
theorem words_count {ds : List PyData} (h : wrongV ds = none) : ∀ n : Nat, n ≤ ds.length → countIn (.str "lock") (((ds.take n).map headW).map PyData.str) = countIn (.str "unlock") (((ds.take n).map headW).map PyData.str) + (if lkAt ds n = true then 1 else 0)
  | 0, _ => by
    rw [List.take_zero, lkAt_zero]
    rfl
  | n + 1, hn => by
    have ih := words_count h n (by omega)
    obtain ⟨h1, h2, h3⟩ := wrong_ok h
    have hd : ds[n]? = some ds[n] := List.getElem?_eq_getElem (by omega)
    have hb := h3 n (by omega)
    unfold badAt at hb
    rw [hd] at hb
    have hb : (onceB ds n ds[n] || lockB ds n ds[n]) = false := hb
    rw [Bool.or_eq_false_iff, lockB_eq] at hb
    have hb := hb.2
    have e1 : ((ds.take (n + 1)).map headW).map PyData.str = ((ds.take n).map headW).map PyData.str ++ [PyData.str (headW ds[n])] := by
      rw [List.take_add_one, hd, List.map_append, List.map_append]
      rfl
    rw [e1, count_snoc, count_snoc, ih, lkAt_succ hd, same_str, same_str]
    unfold lkB
    have sw : ∀ z : Str, (headW ds[n] == z) = isW ds[n] z := fun z => by
      rw [isW_eq, Bool.eq_iff_iff, beq_iff_eq, beq_iff_eq]
      exact ⟨fun h => h.symm, fun h => h.symm⟩
    rw [sw, sw]
    have e2 : isW ds[n] "lock" = true → isW ds[n] "unlock" = false := fun h => by
      rw [decide_eq_true_eq] at h
      rw [decide_eq_false_iff_not, h]
      intro q
      exact absurd (V.str.inj q) (by decide +kernel)
    cases hL : isW ds[n] "lock" with
    | true =>
      rw [hL, e2 hL] at hb
      rw [e2 hL]
      cases hB : lkAt ds n with
      | true => rw [hB] at hb; simp at hb
      | false => simp
    | false =>
      rw [hL] at hb
      cases hU : isW ds[n] "unlock" with
      | true =>
        rw [hU] at hb
        cases hB : lkAt ds n with
        | true => simp
        | false => rw [hB] at hb; simp at hb
      | false => cases hB : lkAt ds n <;> simp
theorem words_lock {ds : List PyData} (h : wrongV ds = none) {n : Nat} (hn : n ≤ ds.length) : decide (countIn (.str "unlock") (((ds.take n).map headW).map PyData.str) < countIn (.str "lock") (((ds.take n).map headW).map PyData.str)) = lkAt ds n := by
  rw [words_count h n hn]
  cases lkAt ds n with
  | true =>
    rw [if_pos rfl, decide_eq_true_eq]
    omega
  | false =>
    rw [if_neg Bool.false_ne_true, decide_eq_false_iff_not]
    omega
theorem cut_take (ds : List PyData) {n : Nat} (hn : n ≤ ds.length) : cutG ds none (some (n : Int)) = ds.take n := by
  unfold cutG
  rw [HT.sIx_none, HT.sIx_nat, Nat.min_eq_left hn, List.drop_zero, Nat.sub_zero]
/-- values of one kind, told apart -/
theorem scal_first (ds : List PyData) (d : PyData) : scal (firstV ds d) (firstV ds d) = true := by
  unfold firstV
  split <;> rfl
end K06

namespace K06
open PySem PySem.Spec PyProof.Rows L2 TL GG OO
theorem step_shape {d : PyData} (h : isStepP d = true) : (∃ w : Str, d = .tuple [.str w]) ∨ ∃ w n : Str, d = .tuple [.str w, .str n] := by
  unfold isStepP at h
  rcases Bool.or_eq_true_iff.mp h with h | h
  · match d, h with
    | .tuple [e], h =>
      obtain ⟨w, rfl⟩ := word_str (ws := wSteps) (d := e) h
      exact .inl ⟨w, rfl⟩
  · match d, h with
    | .tuple [e, g], h =>
      obtain ⟨h1, h2⟩ := Bool.and_eq_true_iff.mp h
      obtain ⟨w, rfl⟩ := word_str (ws := wNSteps) (d := e) h1
      cases g <;> first | exact .inr ⟨w, _, rfl⟩ | cases h2
theorem odd_ok {K : PySem.W.Frag} {n : Nat} (h9 : n ≤ 9) {v : V} (hv : v ∈ [V.int (-1), .int ((n : Int) + 1), .non, .bl true, .str "0"]) :
    (∀ H', NoIx K H' v (n : Nat)) ∧ ∃ z, reprV v = some z ∧ okD (.str z) = true ∧ (∀ i, v = .int i → i.natAbs.log2 < 1920) ∧ ∀ y, v = .str y → (reprText y).length ≤ sizeLine := by
  simp only [List.mem_cons, List.not_mem_nil, or_false] at hv
  rcases hv with rfl | rfl | rfl | rfl | rfl
  · refine ⟨fun _ => .inl ⟨-1, rfl, ?_⟩, _, rfl, by decide +kernel, fun i hi => ?_, fun y hy => nomatch hy⟩
    · unfold isInt
      rw [decide_eq_false (by decide)]
      rfl
    · cases hi
      decide
  · refine ⟨fun _ => .inl ⟨_, rfl, ?_⟩, _, rfl, ?_, fun i hi => ?_, fun y hy => nomatch hy⟩
    · unfold isInt
      rw [decide_eq_false (p := ((n : Int) + 1 ≤ (n : Int))) (by omega), Bool.and_false]
    · have := (by decide +kernel : ∀ n : Nat, n < 10 → okD (.str (toString ((n : Int) + 1))) = true)
      exact this n (by omega)
    · cases hi
      have := (by decide +kernel : ∀ n : Nat, n < 10 → ((n : Int) + 1).natAbs.log2 < 1920)
      exact this n (by omega)
  · exact ⟨fun _ => .inr ⟨"NoneType", .base .non, .inl (by decide +kernel)⟩, _, rfl, by decide +kernel, fun i hi => (nomatch hi), fun y hy => (nomatch hy)⟩
  · exact ⟨fun _ => .inr ⟨"bool", .base (.bl true), .inr ⟨by decide +kernel, by decide +kernel⟩⟩, _, rfl, by decide +kernel, fun i hi => (nomatch hi), fun y hy => (nomatch hy)⟩
  · refine ⟨fun _ => .inr ⟨"str", .base (.str "0"), .inl (by decide +kernel)⟩, _, rfl, by decide +kernel, fun i hi => (nomatch hi), fun y hy => ?_⟩
    cases hy
    decide +kernel
section
variable {P : Program} {w : World} {K : PySem.W.Frag} {mg : Str → Option Value} {base : Heap} {lt0 lt1 : Tok} {t4 t5 t6 : Addr} {S fS N fN C : Addr}
def spRight (K : PySem.W.Frag) (C : Addr) : Sp := fun vs H Q _ => ∃ (r : Addr) (x : V) (ds : List PyData), vs = [.ref r, x] ∧ RowAt K C H r ds ∧ Val K H x (.tuple ds) ∧ ∀ H', Same H H' → Q (.bl true) H'
theorem sc_l_right : FnScope ["_law_row", "_law_steps", "_law_done", "_law_words", "_law_step", "_law_found", "_law_thing"] ["_law_row", "_law_steps"] (defScope s_l_right) := ⟨rfl, rfl, rfl, by decide +kernel, rfl, by decide +kernel, by decide +kernel⟩
theorem ok_l_right {f : Addr} {fd : FuncData} (F : Fun K "_law_right" "_law_right" s_l_right f fd) (T : Txt K mg lt0 lt1 t4 t5 t6) (CT : ClT K mg C)
    {fL fB fF fP fE pp : Addr} {fdL fdP fdE : FuncData} (ML : Meth K C "has_lock" fL) (bL : Binds K fdL ["self", "done"] []) (GL : FnOk P w K mg base (L2.CX P w) 4 fL fdL ["self", "done"] (spLock K C N)) (MB : Meth K C "is_behind" fB) (RB : FnR P w K mg base (L2.CX P w) 4 fB (spStar 2 (spBehind K C N)))
    (MF : Meth K C "first" fF) (RF : FnR P w K mg base CX0 4 fF (spStar 1 (spFirst K C))) (PP : PropOf K C "parts" pp fP) (bP : Binds K fdP ["self"] []) (GP : FnOk P w K mg base CX0 1 fP fdP ["self"] (getSp C "_parts"))
    (hE : PySem.W.findIn K (.ref C) "__len__" = some (some (.ref fE))) (iE : PySem.W.isFn K (.ref fE) = true) (bE : Binds K fdE ["self"] []) (GE : FnOk P w K mg base CX0 1 fE fdE ["self"] (spLen K C))
    {f1 : Addr} {fd1 : FuncData} (F_l_refused : Fun K "_law_refused" "_law_refused" s_l_refused f1 fd1) (b_l_refused : Binds K fd1 ["_law_row", "_law_value"] []) (g_l_refused : mg "_law_refused" = some (.ref f1)) (G_l_refused : FnOk P w K mg base CX0 5 f1 fd1 ["_law_row", "_law_value"] (spRefused K C)) :
    FnOk P w K mg base CX0 6 f fd ["_law_row", "_law_steps"] (spRight K C) := by
  have RL : FnR P w K mg base (L2.CX P w) 4 fL (spLock K C N) := (GL.raw bL .nil).imp fun vs H Q E h => by
    rw [List.append_nil]
    exact h
  have RE : FnR P w K mg base CX0 1 fE (spLen K C) := (GE.raw bE .nil).imp fun vs H Q E h => by
    rw [List.append_nil]
    exact h
  refine F.ok sc_l_right (fun vs H Q E h => ?_) (fun cdv A outer s H vs Q E hr h => ?_)
  · obtain ⟨r, x, ds, rfl, _⟩ := h
    rfl
  · obtain ⟨r, x, ds, rfl, row, hv, q⟩ := h
    have hr2 : Room 2 _ := hr.mono (by decide)
    have hr4 : Room 4 _ := hr.mono (by decide)
    refine ⟨_, (pss_cons (ps_if (PW.pt (pw_or (pt_cmpR (op_neD hr.units) (pe_prop (pv 0) CT.cl PP GP hr2 bP .nil pass0 (by rfl)) (pv 1) (nomark _)) (pw_or1 (pt_cmpR op_ne (pe_callB (call_lenO RE hr2 pass0 hE iE) (by rfl) T.m_len PySem.boot_len (pa_cons (pv 0) pa_nil)) (pe_callB call_len_seq (by rfl) T.m_len PySem.boot_len (pa_cons (pv 1) pa_nil)) (nomark _))))) 
      (pss_one (ps_ret pe_bl)) pss_nil) 
    (pss_cons (ps_for PassesOwn.never rfl (pi_range1 rfl T.m_range (pa_cons (pe_op op_add (pe_callB call_len_seq (by rfl) T.m_len PySem.boot_len (pa_cons (pv 1) pa_nil)) pe_int) pa_nil)) (pg_name (i := 2) sc_l_right.nd rfl (.inl rfl)) 
      (pss_cons (ps_setLc (i := 3) (own := [("_law_step", 4)]) (g := gName 4) rfl sc_l_right.nd rfl rfl (sw_true rfl rfl rfl (by decide +kernel)) (pi_tup (pe_slice sl_tupA (pv 1) po_none (po_some (pv 2)))) (blkOk_by (N := ["_law_row", "_law_steps", "_law_done", "_law_words", "_law_step", "_law_found", "_law_thing"]) (sc := defScope s_l_right) (by decide +kernel)) (fun _ _ _ _ _ => pg_name (i := 4) sc_l_right.nd rfl (.inl rfl)) (fun _ _ _ _ _ => pts_nil) (fun _ _ _ _ _ => (pe_ix (r := rIxT K) ix_tup (pv 4) pe_int (fun _ _ => rfl)))) 
      (pss_cons (ps_if (pt_cmpR op_ne (pe_methRS (E := fun _ => E0) (pv 0) CT.cl ML RL hr4 (pat passL) (pa_cons (pv 2) pa_nil)) (pe_cmpR op_gt (pe_bm PySem.F.plainAttrs_list PySem.F.slot_list_count PySem.F.type_list_count mt_lcountS (pv 3) (pa_cons pe_str pa_nil)) (pe_bm PySem.F.plainAttrs_list PySem.F.slot_list_count PySem.F.type_list_count mt_lcountS (pv 3) (pa_cons pe_str pa_nil)) (nomark _)) (nomark _)) 
        (pss_one (ps_ret pe_bl)) pss_nil) 
      (pss_cons (ps_if (pt_cmpR op_ne (pe_methRS (E := fun _ => E0) (pv 0) CT.cl MB RB hr4 (pat passL) (pa_cons (pv 2) (pa_cons pe_str (pa_cons pe_str pa_nil)))) (pe_cmpR (op_inT (room65 hr)) (pe_tup (pa_cons pe_str (pa_cons pe_str pa_nil))) (pe_slice sl_tupA (pv 1) po_none (po_some (pv 2))) (by rfl)) (nomark _)) 
        (pss_one (ps_ret pe_bl)) pss_nil) 
      (pss_one (ps_if (pt_cmpR op_ne (pe_methRS (E := fun _ => E0) (pv 0) CT.cl MB RB hr4 (pat passL) (pa_cons (pv 2) (pa_cons pe_str pa_nil))) (pe_cmpR (op_inT (room65 hr)) (pe_tup (pa_cons pe_str pa_nil)) (pe_slice sl_tupA (pv 1) po_none (po_some (pv 2))) (by rfl)) (nomark _)) 
        (pss_one (ps_ret pe_bl)) pss_nil)))))) 
    (pss_cons (ps_for PassesOwn.never rfl (pi_list (pe_op op_cat (pe_callTy call_list_of (by rfl) T.m_list (by decide +kernel) (pa_cons (pv 1) pa_nil)) (pe_lst (pa_cons (pe_tup (pa_cons pe_str pa_nil)) (pa_cons (pe_tup (pa_cons pe_str pa_nil)) pa_nil))))) (pg_name (i := 4) sc_l_right.nd rfl (.inl rfl)) 
      (pss_cons (ps_set (i := 5) sc_l_right.nd rfl (.inl rfl) (pe_ifExp (pt_cmpR op_eq (pe_callB call_len_seq (by rfl) T.m_len PySem.boot_len (pa_cons (pv 4) pa_nil)) pe_int (nomark _)) (pe_methRS (E := fun _ => E0) (pv 0) CT.cl MF RF hr4 (pat pass0) (pa_cons (pe_ix ix_tup (pv 4) pe_int (fun _ _ => rfl)) pa_nil)) (pe_methRS (E := fun _ => E0) (pv 0) CT.cl MF RF hr4 (pat pass0) (pa_cons (pe_ix ix_tup (pv 4) pe_int (fun _ _ => rfl)) (pa_cons (pe_ix ix_tup (pv 4) pe_int (fun _ _ => rfl)) pa_nil))))) 
      (pss_one (ps_if (pt_cmpR op_ne (pv 5) (pe_ifExp (pt_cmpR (op_inT (room65 hr)) (pv 4) (pv 1) (by rfl)) (pe_bm PySem.F.plainAttrs_list PySem.F.slot_list_index PySem.F.type_list_index (mt_indexD (room65 hr)) (pe_callTy call_list_of (by rfl) T.m_list (by decide +kernel) (pa_cons (pv 1) pa_nil)) (pa_cons (pv 4) pa_nil)) pe_non) (nomark _)) 
        (pss_one (ps_ret pe_bl)) pss_nil)))) 
    (pss_one (ps_ret (pe_cmpR (op_eqD hr.units) (pe_lc (own := [("_law_thing", 6)]) (g := gName 6) rfl sc_l_right.nd (pi_list (pe_lst (pa_cons (pe_un un_neg pe_int) (pa_cons (pe_op op_add (pe_callB call_len_seq (by rfl) T.m_len PySem.boot_len (pa_cons (pv 1) pa_nil)) pe_int) (pa_cons pe_non (pa_cons pe_bl (pa_cons pe_str pa_nil))))))) (blkOk_by (N := ["_law_row", "_law_steps", "_law_done", "_law_words", "_law_step", "_law_found", "_law_thing"]) (sc := defScope s_l_right) (by decide +kernel)) (fun _ _ _ _ _ => pg_name (i := 6) sc_l_right.nd rfl (.inl rfl)) (fun _ _ _ _ _ => (pts_one (pt_not (pt_val (pe_call G_l_refused hr (by rfl) g_l_refused F_l_refused.kp b_l_refused .nil pass0 (pa_cons (pv 0) (pa_cons (pv 6) pa_nil))))))) (fun _ _ _ _ _ => (pv 6))) (pe_lst pa_nil) (nomark _))))))), ?_⟩
    obtain ⟨b, xs, rfl, hs, ha, hl, h1000, hget⟩ := hv.tup
    have hw : wrongV ds = none := by
      obtain ⟨_, _, _, _, _, _, h4, _⟩ := row
      exact h4
    obtain ⟨hb1, h9, hb2⟩ := wrong_ok hw
    have hgood := hv.dp.2
    have hlay := hgood.lay (by decide)
    have self_eq : PyData.eqv (.tuple ds) (.tuple ds) = true := SeqAt.eqv_refl _ (SeqAt.canLay_of_shaped hlay)
    obtain ⟨dx, pa, l, h1, h2, h3, h4, h5⟩ := id row
    refine ⟨_, rfl, r, dx, _, rfl, h1, r, dx, _, _, rfl, h1, rowF_p _ _, _, rfl, .tuple ds, .tuple ds, h2.dp.1, hv.dp.1, hlay, hlay, _, rfl, iteB (by rw [self_eq]; rfl) (iteF ?_)⟩
    refine ⟨_, rfl, r, dx, _, rfl, h1, r, ds, rfl, row, ds.length, rfl, by omega, _, rfl, b, xs, rfl, .inr hs, rfl, _, rfl, iteB (by rw [hl, decide_eq_true rfl]; rfl) (iteF ?_)⟩
    refine ⟨_, rfl, b, xs, rfl, .inr hs, _, _, rfl, rfl, _, rfl, by omega, by omega, for_range (lo := 0) (fun i σ H' => Same H H' ∧ ∃ y2 y3 y4 y5 y6 : Option V, σ = [some (.ref r), some (.ref b), y2, y3, y4, y5, y6]) ⟨Same.refl H, _, _, _, _, _, rfl⟩ ?_ ?_⟩
    · rintro i σ H1 hi ⟨s1, y2, y3, y4, y5, y6, rfl⟩
      have hin : i ≤ ds.length := by
        rw [hl] at hi
        omega
      have e0 : (0 : Int) + (i : Int) = (i : Int) := by omega
      rw [e0]
      refine ⟨_, rfl, _, rfl, _, rfl, slice0 (hv.same s1).dp.1 fun y H2 s2 hy => ?_⟩
      rw [cut_take ds hin] at hy
      cases hy with
      | @tup ya ys _ hys hya =>
      have hyl := dpAll_len hya
      refine ⟨ya, rfl, ⟨_, hys⟩, fun D hD => lc_it (walk_tup (xs := ys)) (fun j H' => Same H2 H' ∧ H' D = some (.lst ((((ds.take i).map headW).take j).map V.str))) ⟨same_upd hD, upd_same⟩ (fun j H' _ h => Same.seqT h.1 hys) ?_ ?_⟩
      · rintro j x _ H3 hj ⟨s3, e3⟩ ⟨rfl, hx⟩
        obtain ⟨d, hd, hp⟩ := dpAll_get hya hx
        have hdm : d ∈ ds := List.mem_of_mem_take (List.mem_of_getElem? hd)
        obtain ⟨a, zs, rfl, hq, hz⟩ := step_word (H := H2) (.inl ⟨hp, (((Good.tup (n := 59)).mp hgood).2 d hdm).mono (by decide)⟩) (all_steps hb1 hdm)
        have hjm : ((ds.take i).map headW)[j]? = some (headW d) := by
          rw [List.getElem?_map, hd]
          rfl
        refine ⟨rfl, yes_then ⟨_, rfl, a, zs, _, _, rfl, rfl, Same.seqT s3 hq, hz, _, e3, ?_, same_st s3 hD, ?_⟩⟩
        · refine small1000 ?_
          rw [List.length_map, List.length_take, List.length_map, List.length_take]
          omega
        · rw [upd_same, List.take_add_one, hjm, List.map_append]
          rfl
      rintro H3 ⟨s3, e3⟩
      rw [List.take_of_length_le (by rw [List.length_map]; omega)] at e3
      have t3 := (s1.trans s2).trans s3
      have e3' : H3 D = some (.lst (((ds.take i).map headW).map V.str)) := e3
      refine ⟨_, rfl, r, dx, _, rfl, t3 _ _ h1, rowF_no _ _ (by decide +kernel) (by decide +kernel), _, rfl, r, .int (i : Nat), ds, rfl, row.same t3, .inl ⟨i, rfl, hin, ?_⟩⟩
      refine ⟨_, rfl, .inl ⟨rfl, _, .inl (.inl e3')⟩, D, (ds.take i).map headW, "lock", rfl, rfl, .inl (.inl e3'), _, rfl, .inl ⟨rfl, _, .inl (.inl e3')⟩, D, (ds.take i).map headW, "unlock", rfl, rfl, .inl (.inl e3'), _, _, rfl, rfl, rfl, _, rfl, iteB (by show (!decide (V.bl (lkAt ds i) = V.bl (decide (countIn (.str "unlock") (((ds.take i).map headW).map PyData.str) < countIn (.str "lock") (((ds.take i).map headW).map PyData.str))))) = false; rw [words_lock hw hin, decide_eq_true rfl]; rfl) (iteF ?_)⟩
      -- is_behind mark m
      refine ⟨_, rfl, r, dx, _, rfl, t3 _ _ h1, rowF_no _ _ (by decide +kernel) (by decide +kernel), _, rfl, [.ref r, .int (i : Nat)], [.str "mark", .str "m"], rfl, rfl, (by show 2 ≤ sizeLine; decide), fun p4 ob hp hcl hob => ?_⟩
      have t4 := t3.trans (same_upd (o := .frz ob (.tup [V.str "mark", V.str "m"])) hp)
      refine ⟨r, p4, .int (i : Nat), ds, [.str "mark", .str "m"], rfl, row.same t4, .inl ⟨.tup (.inl (.inr ⟨ob, upd_same⟩)) (.cons (.str _) (.cons (.str _) .nil)), by constructor <;> decide +kernel⟩, .inl ⟨i, rfl, hin, fun H4a s4a => ?_⟩⟩
      have t4a := t4.trans s4a
      refine ⟨(by show 2 ≤ sizeLine; decide), fun q4 hq4 => ?_⟩
      have t4b := t4a.trans (same_upd (o := .tup [V.str "mark", V.str "m"]) hq4)
      refine ⟨_, rfl, _, rfl, _, rfl, slice0 (hv.same t4b).dp.1 fun y4 H4c s4c hy4 => ?_⟩
      have t4c := t4b.trans s4c
      have k4 : isStepP (.tuple [.str "mark", .str "m"]) = true := by decide +kernel
      have b4 : behindB ds i (.tuple [.str "mark", .str "m"]) = (cutG ds none (some (i : Int))).any fun z => PyData.eqv z (.tuple [.str "mark", .str "m"]) := by
        unfold behindB
        rw [k4, Bool.true_and]
      refine ⟨.tuple [.str "mark", .str "m"], _, dp_same s4c _ _ (.tup (.inl (.inl upd_same)) (.cons (.str _) (.cons (.str _) .nil))), hy4, by decide +kernel, (good_cut (n := 59) hgood).lay (by decide), rfl, _, rfl, iteB (by rw [b4, decide_eq_true rfl]; rfl) (iteF ?_)⟩
      -- is_behind let
      refine ⟨_, rfl, r, dx, _, rfl, t4c _ _ h1, rowF_no _ _ (by decide +kernel) (by decide +kernel), _, rfl, [.ref r, .int (i : Nat)], [.str "let"], rfl, rfl, (by show 1 ≤ sizeLine; decide), fun p5 ob hp hcl hob => ?_⟩
      have t5 := t4c.trans (same_upd (o := .frz ob (.tup [V.str "let"])) hp)
      refine ⟨r, p5, .int (i : Nat), ds, [.str "let"], rfl, row.same t5, .inl ⟨.tup (.inl (.inr ⟨ob, upd_same⟩)) (.cons (.str _) .nil), by constructor <;> decide +kernel⟩, .inl ⟨i, rfl, hin, fun H5a s5a => ?_⟩⟩
      have t5a := t5.trans s5a
      refine ⟨(by show 1 ≤ sizeLine; decide), fun q5 hq5 => ?_⟩
      have t5b := t5a.trans (same_upd (o := .tup [V.str "let"]) hq5)
      refine ⟨_, rfl, _, rfl, _, rfl, slice0 (hv.same t5b).dp.1 fun y5 H5c s5c hy5 => ?_⟩
      have t5c := t5b.trans s5c
      have k5 : isStepP (.tuple [.str "let"]) = true := by decide +kernel
      have b5 : behindB ds i (.tuple [.str "let"]) = (cutG ds none (some (i : Int))).any fun z => PyData.eqv z (.tuple [.str "let"]) := by
        unfold behindB
        rw [k5, Bool.true_and]
      refine ⟨.tuple [.str "let"], _, dp_same s5c _ _ (.tup (.inl (.inl upd_same)) (.cons (.str _) .nil)), hy5, by decide +kernel, (good_cut (n := 59) hgood).lay (by decide), rfl, _, rfl, iteB (by rw [b5, decide_eq_true rfl]; rfl) (iteF ?_)⟩
      exact ⟨t5c, _, _, _, _, _, rfl⟩
    · rintro σ H1 ⟨s1, y2, y3, y4, y5, y6, rfl⟩
      refine ⟨_, rfl, b, xs, rfl, .inr (Same.seqT s1 hs), fun l1 hl1 => ⟨(by show 1 ≤ sizeLine; decide), fun u1 hu1 => ⟨(by show 1 ≤ sizeLine; decide), fun u2 hu2 => ⟨(by show 2 ≤ sizeLine; decide), fun l2 hl2 => ?_⟩⟩⟩⟩
      have a1 := same_upd (o := .lst xs) hl1
      have a2 := same_upd (o := .tup [V.str "out"]) hu1
      have a3 := same_upd (o := .tup [V.str "wait"]) hu2
      have a4 := same_upd (o := .lst [V.ref u1, V.ref u2]) hl2
      refine ⟨l1, l2, xs, [V.ref u1, V.ref u2], rfl, rfl, ((a2.trans a3).trans a4) _ _ upd_same, upd_same, Nat.le_of_lt (small1000 (by show xs.length + 2 ≤ 1000; omega)), fun l3 hl3 => ?_⟩
      have a5 := same_upd (o := .lst (xs ++ [V.ref u1, V.ref u2])) hl3
      have t5 := s1.trans ((((a1.trans a2).trans a3).trans a4).trans a5)
      have hes := dpAll_app (dpAll_same t5 _ _ ha) (DpAll.cons (Dp.tup (.inl (.inl (((a3.trans a4).trans a5) _ _ upd_same))) (.cons (.str "out") .nil)) (DpAll.cons (Dp.tup (.inl (.inl ((a4.trans a5) _ _ upd_same))) (.cons (.str "wait") .nil)) .nil))
      have hest : ∀ e ∈ ds ++ [PyData.tuple [.str "out"], PyData.tuple [.str "wait"]], isStepP e = true ∧ Good 59 e := fun e he => by
        rw [List.mem_append] at he
        rcases he with he | he
        · exact ⟨all_steps hb1 he, ((Good.tup (n := 59)).mp hgood).2 e he⟩
        · simp only [List.mem_cons, List.not_mem_nil, or_false] at he
          rcases he with rfl | rfl
          · exact ⟨by decide +kernel, by constructor <;> decide +kernel⟩
          · exact ⟨by decide +kernel, by constructor <;> decide +kernel⟩
      refine ⟨l3, rfl, ⟨_, .inl (.inl upd_same)⟩, for_it (walk_list (xs := xs ++ [V.ref u1, V.ref u2])) (fun i σ H' => Same _ H' ∧ ∃ y2 y3 y4 y5 y6 : Option V, σ = [some (.ref r), some (.ref b), y2, y3, y4, y5, y6]) ⟨Same.refl _, _, _, _, _, _, rfl⟩ (fun i σ H' _ h => .inl (.inl (h.1 _ _ upd_same))) ?_ ?_⟩
      · rintro i x σ _ H3 hi ⟨t5', y2, y3, y4, y5, y6, rfl⟩ ⟨rfl, hx⟩
        obtain ⟨e, he, hxe⟩ := dpAll_get hes hx
        obtain ⟨hst, hxg⟩ := hest e (List.mem_of_getElem? he)
        replace hxe := dp_same t5' _ _ hxe
        replace t5 := t5.trans t5'
        rcases step_shape hst with ⟨w, rfl⟩ | ⟨w, n, rfl⟩
        · cases hxe with
          | @tup xa zs _ hq hza =>
          cases hza with
          | cons hz0 hz1 =>
          cases hz0
          cases hz1
          have hxe : Dp K H3 (.ref xa) (.tuple [.str w]) := .tup hq (.cons (.str _) .nil)
          refine ⟨_, rfl, xa, _, rfl, .inr hq, rfl, _, rfl, iteB (c := true) (decide_eq_true rfl) (iteT ?_)⟩
          refine ⟨_, rfl, r, dx, _, rfl, t5 _ _ h1, rowF_no _ _ (by decide +kernel) (by decide +kernel), _, rfl, xa, _, _, _, rfl, rfl, hq, atI_nat (j := 0) rfl, [.ref r], [.str w], rfl, rfl, (by show 1 ≤ sizeLine; decide), fun p ob hp hcl hob => ?_⟩
          have u1 := same_upd (o := .frz ob (.tup [V.str w])) hp
          refine ⟨r, p, ds, [.str w], rfl, row.same (t5.trans u1), .inl ⟨.tup (.inl (.inr ⟨ob, upd_same⟩)) (.cons (.str _) .nil), hxg.mono (by decide)⟩, fun H6 u2 => ?_⟩
          have t6 := u1.trans u2
          have t7 := t5.trans t6
          have hlx := hxg.lay (by decide)
          refine ⟨_, rfl, _, rfl, _, rfl, (.tuple [.str w]), ds, dp_same t6 _ _ hxe, (hv.same t7).dp.1, hlx, hlay, _, rfl, ite2 (fun g2 => ?_) (fun g2 => ?_)⟩
          · obtain ⟨z, hz1, hz2, hz3⟩ := find_first g2
            have ef : firstV ds (.tuple [.str w]) = .int ((ds.findIdx fun z => PyData.eqv z (.tuple [.str w]) : Nat) : Int) := by
              unfold firstV
              rw [if_pos (by rw [hst, g2]; rfl)]
            refine ⟨_, rfl, b, xs, rfl, .inr (Same.seqT t7 hs), fun l4 hl4 => ?_⟩
            have t8 := same_upd (o := .lst xs) hl4
            refine ⟨.inl ⟨rfl, _, .inl (.inl upd_same)⟩, _, rfl, l4, _, (.tuple [.str w]), ds, _, z, rfl, rfl, .lst (.inl (.inl upd_same)) (dpAll_same (t7.trans t8) _ _ ha), dp_same (t6.trans t8) _ _ hxe, (show Good 60 (.list ds) from hgood).lay (by decide), hlx, hz1, hz2, hz3, by rw [ef]; rfl, _, rfl, iteB (by rw [ef, decide_eq_true rfl]; rfl) (iteF ?_)⟩
            exact ⟨t5'.trans (t6.trans t8), _, _, _, _, _, rfl⟩
          · have ef : firstV ds (.tuple [.str w]) = .non := by
              unfold firstV
              rw [if_neg (by rw [hst, Bool.true_and]; exact g2)]
            refine ⟨by rw [ef]; rfl, _, rfl, iteB (by rw [ef, decide_eq_true rfl]; rfl) (iteF ?_)⟩
            exact ⟨t5'.trans t6, _, _, _, _, _, rfl⟩
        · cases hxe with
          | @tup xa zs _ hq hza =>
          cases hza with
          | cons hz0 hz1 =>
          cases hz0
          cases hz1 with
          | cons hz2 hz3 =>
          cases hz2
          cases hz3
          have hxe : Dp K H3 (.ref xa) (.tuple [.str w, .str n]) := .tup hq (.cons (.str _) (.cons (.str _) .nil))
          refine ⟨_, rfl, xa, _, rfl, .inr hq, rfl, _, rfl, iteB (c := false) (decide_eq_false (by intro z; cases z)) (iteF ?_)⟩
          refine ⟨_, rfl, r, dx, _, rfl, t5 _ _ h1, rowF_no _ _ (by decide +kernel) (by decide +kernel), _, rfl, xa, _, _, _, rfl, rfl, hq, atI_nat (j := 0) rfl, _, rfl, xa, _, _, _, rfl, rfl, hq, atI_nat (j := 1) rfl, [.ref r], [.str w, .str n], rfl, rfl, (by show 2 ≤ sizeLine; decide), fun p ob hp hcl hob => ?_⟩
          have u1 := same_upd (o := .frz ob (.tup [V.str w, V.str n])) hp
          refine ⟨r, p, ds, [.str w, .str n], rfl, row.same (t5.trans u1), .inl ⟨.tup (.inl (.inr ⟨ob, upd_same⟩)) (.cons (.str _) (.cons (.str _) .nil)), hxg.mono (by decide)⟩, fun H6 u2 => ?_⟩
          have t6 := u1.trans u2
          have t7 := t5.trans t6
          have hlx := hxg.lay (by decide)
          refine ⟨_, rfl, _, rfl, _, rfl, (.tuple [.str w, .str n]), ds, dp_same t6 _ _ hxe, (hv.same t7).dp.1, hlx, hlay, _, rfl, ite2 (fun g2 => ?_) (fun g2 => ?_)⟩
          · obtain ⟨z, hz1, hz2, hz3⟩ := find_first g2
            have ef : firstV ds (.tuple [.str w, .str n]) = .int ((ds.findIdx fun z => PyData.eqv z (.tuple [.str w, .str n]) : Nat) : Int) := by
              unfold firstV
              rw [if_pos (by rw [hst, g2]; rfl)]
            refine ⟨_, rfl, b, xs, rfl, .inr (Same.seqT t7 hs), fun l4 hl4 => ?_⟩
            have t8 := same_upd (o := .lst xs) hl4
            refine ⟨.inl ⟨rfl, _, .inl (.inl upd_same)⟩, _, rfl, l4, _, (.tuple [.str w, .str n]), ds, _, z, rfl, rfl, .lst (.inl (.inl upd_same)) (dpAll_same (t7.trans t8) _ _ ha), dp_same (t6.trans t8) _ _ hxe, (show Good 60 (.list ds) from hgood).lay (by decide), hlx, hz1, hz2, hz3, by rw [ef]; rfl, _, rfl, iteB (by rw [ef, decide_eq_true rfl]; rfl) (iteF ?_)⟩
            exact ⟨t5'.trans (t6.trans t8), _, _, _, _, _, rfl⟩
          · have ef : firstV ds (.tuple [.str w, .str n]) = .non := by
              unfold firstV
              rw [if_neg (by rw [hst, Bool.true_and]; exact g2)]
            refine ⟨by rw [ef]; rfl, _, rfl, iteB (by rw [ef, decide_eq_true rfl]; rfl) (iteF ?_)⟩
            exact ⟨t5'.trans t6, _, _, _, _, _, rfl⟩
      · rintro σ H3 ⟨t5', y2, y3, y4, y5, y6, rfl⟩
        replace t5 := t5.trans t5'
        refine ⟨_, rfl, _, rfl, b, xs, rfl, .inr (Same.seqT t5 hs), _, _, rfl, rfl, (by show 5 ≤ sizeLine; decide), fun lo hlo => ?_⟩
        have t6 := t5.trans (same_upd (o := .lst [V.int (-1), .int ((xs.length : Int) + 1), .non, .bl true, .str "0"]) hlo)
        refine ⟨lo, rfl, ⟨_, .inl (.inl upd_same)⟩, fun D hD => lc_it (walk_list (xs := [V.int (-1), .int ((xs.length : Int) + 1), .non, .bl true, .str "0"])) (fun j H' => Same _ H' ∧ H' D = some (.lst [])) ⟨same_upd hD, upd_same⟩ (fun j H' _ h => .inl (.inl (h.1 _ _ upd_same))) ?_ ?_⟩
        · rintro j x _ H4 hj ⟨s4, e4⟩ ⟨rfl, hx⟩
          have hm := List.mem_of_getElem? hx
          rw [hl] at hm
          obtain ⟨o1, z, o2, o3, o4, o5⟩ := odd_ok (K := K) h9 hm
          exact ⟨rfl, _, rfl, _, rfl, r, x, z, ds, rfl, row.same (t6.trans s4), o1, o2, o3, o4, o5, fun H5 s5 => ⟨_, rfl, iteF ⟨s4.trans s5, s5 _ _ e4⟩⟩⟩
        · rintro H4 ⟨s4, e4⟩
          refine ⟨Nat.zero_le _, fun l5 hl5 => ⟨.list [], .list [], .lst (.inl (.inl ((same_upd hl5) _ _ e4))) .nil, .lst (.inl (.inl upd_same)) .nil, by decide +kernel, by decide +kernel, ?_⟩⟩
          exact q _ ((t6.trans s4).trans (same_upd hl5))
end
end K06

namespace K06
open PySem PySem.Spec PyProof.Rows L2 TL GG OO
/-- a list of data of moderate size -/
def SLa (K : PySem.W.Frag) (n : Nat) (R : Hp) (D : Addr) : Prop := ∃ vs : List V, R D = some (.lst vs) ∧ vs.length ≤ n ∧ ∀ v ∈ vs, PD K 5 R v
theorem cut_both (vs : List V) {r : Int} (h0 : 0 ≤ r) : (cutV vs none (some r)).length + (cutV vs (some r) none).length = vs.length := by
  have e : cutV vs none (some r) ++ cutV vs (some r) none = vs := cut_two vs h0
  have := congrArg List.length e
  rw [List.length_append] at this
  exact this
theorem SLa.mono {K : PySem.W.Frag} {n m : Nat} {R : Hp} {D : Addr} (h : SLa K n R D) (k : n ≤ m) : SLa K m R D := by
  obtain ⟨vs, h1, h2, h3⟩ := h
  exact ⟨vs, h1, Nat.le_trans h2 k, h3⟩
theorem SLa.same {K : PySem.W.Frag} {n : Nat} {R R' : Hp} {D : Addr} (h : SLa K n R D) (s : Same R R') : SLa K n R' D := by
  obtain ⟨vs, h1, h2, h3⟩ := h
  exact ⟨vs, s _ _ h1, h2, fun v hv => (h3 v hv).same s⟩
theorem pd_snoc {K : PySem.W.Frag} {H : Hp} {vs ws : List V} {ds : List PyData} {t : Addr} (h : ∀ v ∈ vs, PD K 5 H v) (ht : H t = none) (hw : DpAll K H ws ds) (hg : Good 5 (.tuple ds)) : ∀ v ∈ vs ++ [V.ref t], PD K 5 (upd H t (.tup ws)) v := fun v hv => by
  rw [List.mem_append, List.mem_singleton] at hv
  rcases hv with hv | rfl
  · exact (h v hv).same (same_upd ht)
  · exact ⟨_, .tup (.inl (.inl upd_same)) (dpAll_same (same_upd ht) _ _ hw), hg⟩
theorem pd_snocL {K : PySem.W.Frag} {H : Hp} {vs ws : List V} {ds : List PyData} {t : Addr} (h : ∀ v ∈ vs, PD K 5 H v) (ht : H t = none) (hw : DpAll K H ws ds) (hg : Good 5 (.list ds)) : ∀ v ∈ vs ++ [V.ref t], PD K 5 (upd H t (.lst ws)) v := fun v hv => by
  rw [List.mem_append, List.mem_singleton] at hv
  rcases hv with hv | rfl
  · exact (h v hv).same (same_upd ht)
  · exact ⟨_, .lst (.inl (.inl upd_same)) (dpAll_same (same_upd ht) _ _ hw), hg⟩
theorem pd_flat {K : PySem.W.Frag} {H : Hp} {vs : List V} {v : V} {d : PyData} (h : ∀ v ∈ vs, PD K 5 H v) (hd : Dp K H v d) (hg : Good 5 d) : ∀ u ∈ vs ++ [v], PD K 5 H u := fun u hu => by
  rw [List.mem_append, List.mem_singleton] at hu
  rcases hu with hu | rfl
  · exact h u hu
  · exact ⟨d, hd, hg⟩
theorem made_row {K : PySem.W.Frag} {C S : Addr} {H : Hp} {xs : List V} {ds : List PyData} {Q : Addr → Hp → Prop} {E : XK} (ha : DpAll K H xs ds) (hg : Good 60 (.tuple ds)) (hw : wrongV ds = none) (hl : xs.length ≤ sizeLine)
    (q : ∀ H' r, Same H H' → H r = none → RowAt K C H' r ds → Q r H') : ∀ x dx, H x = none → H dx = none → dx ≠ x → spStar 1 (spRowI K C S) (.ref x :: xs) (upd (upd H dx (.own x)) x (.ins C dx [])) (fun v H2 => v = .non ∧ Q x H2) E := fun x dx hx hdx hne => by
  refine ⟨[.ref x], xs, rfl, rfl, hl, fun p ob hp hcl hob => ?_⟩
  have s2 : Same H (upd (upd (upd H dx (.own x)) x (.ins C dx [])) p (.frz ob (.tup xs))) := ((same_upd hdx).trans (same_upd (by rw [upd_ne hne.symm]; exact hx))).trans (same_upd hp)
  have hxp : x ≠ p := ne_of_none upd_same hp
  have hv : Val K (upd (upd (upd H dx (.own x)) x (.ins C dx [])) p (.frz ob (.tup xs))) (.ref p) (.tuple ds) := .inl ⟨.tup (.inl (.inr ⟨ob, upd_same⟩)) (dpAll_same s2 _ _ ha), hg⟩
  have e0 : (upd (upd (upd H dx (.own x)) x (.ins C dx [])) p (.frz ob (.tup xs))) x = some (.ins C dx []) := by rw [upd_ne hxp]; exact upd_same
  refine ⟨x, p, dx, ds, rfl, e0, hv, fun _ H' dx' l k1 hx' hl' => ⟨rfl, ?_⟩, fun v hv' => ?_⟩
  · exact q H' x (keep_same k1 s2 hx) hx ⟨dx', p, l, hx', val_keep hv k1 e0, hl', hw, ob, xs, k1 p hxp.symm _ upd_same, hcl, hob⟩
  · rw [hw] at hv'
    exact nomatch hv'
def spLaw (K : PySem.W.Frag) : Sp := fun vs H Q _ => ∃ (a : Addr) (ns : List Int), vs = [.ref a] ∧ SqL K H a (ns.map V.int) ∧ ns.length ≤ 63 ∧ ∀ H', Q (.bl true) H'
section
variable {P : Program} {w : World} {K : PySem.W.Frag} {mg : Str → Option Value} {base : Heap} {lt0 lt1 : Tok} {t4 t5 t6 : Addr} {S fS N fN C : Addr}
theorem sc_l_law : FnScope ["_law_script", "_law_some", "_law_odd", "_law_k", "_law_cell", "_law_pool_here", "_law_turn", "_law_steps", "_law_at", "_law_wrong_here", "_law_found", "_law_thing", "_law_again", "_law_step"] ["_law_script"] (defScope s_law) := ⟨rfl, rfl, rfl, by decide +kernel, rfl, by decide +kernel, by decide +kernel⟩
theorem ok_l_law {f : Addr} {fd : FuncData} (F : Fun K "law" "law" s_law f fd) (T : Txt K mg lt0 lt1 t4 t5 t6) (CT : ClT K mg C)
    {f1 : Addr} {fd1 : FuncData} (F_l_pool : Fun K "_law_pool" "_law_pool" s_l_pool f1 fd1) (b_l_pool : Binds K fd1 ["_law_cell", "_law_salt", "_law_many"] []) (g_l_pool : mg "_law_pool" = some (.ref f1)) (G_l_pool : FnOk P w K mg base CX0 2 f1 fd1 ["_law_cell", "_law_salt", "_law_many"] (spPool K))
    {f2 : Addr} {fd2 : FuncData} (F_l_draw : Fun K "_law_draw" "_law_draw" s_l_draw f2 fd2) (b_l_draw : Binds K fd2 ["_law_pool_here", "_law_many"] []) (g_l_draw : mg "_law_draw" = some (.ref f2)) (G_l_draw : FnOk P w K mg base CX0 1 f2 fd2 ["_law_pool_here", "_law_many"] (spDraw K))
    {f3 : Addr} {fd3 : FuncData} (F_l_pick : Fun K "_law_pick" "_law_pick" s_l_pick f3 fd3) (b_l_pick : Binds K fd3 ["_law_pool_here", "_law_some"] []) (g_l_pick : mg "_law_pick" = some (.ref f3)) (G_l_pick : FnOk P w K mg base CX0 2 f3 fd3 ["_law_pool_here", "_law_some"] (spPick K))
    {f4 : Addr} {fd4 : FuncData} (F_l_wrong : Fun K "_law_wrong" "_law_wrong" s_l_wrong f4 fd4) (b_l_wrong : Binds K fd4 ["_law_steps"] []) (g_l_wrong : mg "_law_wrong" = some (.ref f4)) (G_l_wrong : FnOk P w K mg base CX0 4 f4 fd4 ["_law_steps"] (spWrong K))
    {f5 : Addr} {fd5 : FuncData} (F_l_heard : Fun K "_law_heard" "_law_heard" s_l_heard f5 fd5) (b_l_heard : Binds K fd5 ["_law_steps"] []) (g_l_heard : mg "_law_heard" = some (.ref f5)) (G_l_heard : FnOk P w K mg base CX0 8 f5 fd5 ["_law_steps"] (spHeard K C))
    {f6 : Addr} {fd6 : FuncData} (F_l_right : Fun K "_law_right" "_law_right" s_l_right f6 fd6) (b_l_right : Binds K fd6 ["_law_row", "_law_steps"] []) (g_l_right : mg "_law_right" = some (.ref f6)) (G_l_right : FnOk P w K mg base CX0 6 f6 fd6 ["_law_row", "_law_steps"] (spRight K C))
    {fI fP fE pp : Addr} {fdP fdE : FuncData} (M : Mk K C fI) (GI : FnR P w K mg base (L2.CX P w) 5 fI (spStar 1 (spRowI K C S))) (PP : PropOf K C "parts" pp fP) (bP : Binds K fdP ["self"] []) (GP : FnOk P w K mg base CX0 1 fP fdP ["self"] (getSp C "_parts"))
    (hE : PySem.W.findIn K (.ref C) "__len__" = some (some (.ref fE))) (iE : PySem.W.isFn K (.ref fE) = true) (bE : Binds K fdE ["self"] []) (GE : FnOk P w K mg base CX0 1 fE fdE ["self"] (spLen K C)) :
    FnOk P w K mg base CX0 9 f fd ["_law_script"] (spLaw K) := by
  have RE : FnR P w K mg base CX0 1 fE (spLen K C) := (GE.raw bE .nil).imp fun vs H Q E h => by
    rw [List.append_nil]
    exact h
  refine F.ok sc_l_law (fun vs H Q E h => ?_) (fun cdv A outer s H vs Q E hr h => ?_)
  · obtain ⟨a, ns, rfl, _⟩ := h
    rfl
  · obtain ⟨a, ns, rfl, hS, hlen, q⟩ := h
    have hr2 : Room 2 _ := hr.mono (by decide)
    have hr6 : Room 6 _ := hr.mono (by decide)
    refine ⟨_, (pss_cons (ps_set (i := 1) sc_l_law.nd rfl (.inr rfl) (pe_lst (pa_cons (pe_tup (pa_cons pe_str pa_nil)) (pa_cons (pe_tup (pa_cons pe_str (pa_cons pe_str pa_nil))) (pa_cons (pe_tup (pa_cons pe_str (pa_cons pe_str pa_nil))) (pa_cons (pe_tup (pa_cons pe_str pa_nil)) (pa_cons (pe_tup (pa_cons pe_str pa_nil)) (pa_cons (pe_tup (pa_cons pe_str pa_nil)) (pa_cons (pe_tup (pa_cons pe_str pa_nil)) (pa_cons (pe_tup (pa_cons pe_str (pa_cons pe_str pa_nil))) pa_nil)))))))))) 
        (pss_cons (ps_set (i := 1) sc_l_law.nd rfl (.inr rfl) (pe_op op_cat (pv 1) (pe_lst (pa_cons (pe_tup (pa_cons pe_str (pa_cons pe_str pa_nil))) (pa_cons (pe_tup (pa_cons pe_str (pa_cons pe_str pa_nil))) (pa_cons (pe_tup (pa_cons pe_str pa_nil)) (pa_cons (pe_tup (pa_cons pe_str pa_nil)) (pa_cons (pe_tup (pa_cons pe_str pa_nil)) (pa_cons (pe_tup (pa_cons pe_str pa_nil)) pa_nil))))))))) 
        (pss_cons (ps_set (i := 2) sc_l_law.nd rfl (.inl rfl) (pe_lst (pa_cons pe_non (pa_cons (pe_tup (pa_cons pe_str pa_nil)) (pa_cons (pe_tup (pa_cons pe_str pa_nil)) (pa_cons (pe_lst (pa_cons pe_str pa_nil)) (pa_cons (pe_tup (pa_cons pe_str (pa_cons pe_str pa_nil))) (pa_cons (pe_tup (pa_cons pe_str (pa_cons pe_str pa_nil))) (pa_cons (pe_tup pa_nil) (pa_cons pe_str pa_nil)))))))))) 
        (pss_cons (ps_for PassesOwn.never rfl (pi_enum (by rfl) T.m_enumerate (pa_cons (pe_op op_cat (pe_slice sl_list (pv 0) po_none (po_some pe_int)) (pe_op op_rep (pe_lst (pa_cons pe_int pa_nil)) (pe_callTy call_int1 (by rfl) T.m_int (by decide +kernel) (pa_cons (pe_cmpR (op_eqD hr.units) (pv 0) (pe_lst pa_nil) (nomark _)) pa_nil)))) pa_nil)) (pg_tup rfl (pgs_cons (pg_name (i := 3) sc_l_law.nd rfl (.inl rfl)) (pgs_cons (pg_name (i := 4) sc_l_law.nd rfl (.inl rfl)) pgs_nil))) 
          (pss_cons (ps_set (i := 5) sc_l_law.nd rfl (.inr rfl) (pe_call G_l_pool (hr.mono (by decide)) (by rfl) g_l_pool F_l_pool.kp b_l_pool .nil pass0 (pa_cons (pv 4) (pa_cons (pe_op op_add pe_int (pv 3)) (pa_cons pe_int pa_nil))))) 
          (pss_one (ps_for PassesOwn.never rfl (pi_range1 rfl T.m_range (pa_cons pe_int pa_nil)) (pg_name (i := 6) sc_l_law.nd rfl (.inl rfl)) 
            (pss_cons (ps_set (i := 7) sc_l_law.nd rfl (.inr rfl) (pe_lc (own := [("_law_again", 12)]) (g := gName 12) rfl sc_l_law.nd (pi_range1 rfl T.m_range (pa_cons (pe_call G_l_draw (hr.mono (by decide)) (by rfl) g_l_draw F_l_draw.kp b_l_draw .nil pass0 (pa_cons (pv 5) (pa_cons pe_int pa_nil))) pa_nil)) (blkOk_by (N := ["_law_script", "_law_some", "_law_odd", "_law_k", "_law_cell", "_law_pool_here", "_law_turn", "_law_steps", "_law_at", "_law_wrong_here", "_law_found", "_law_thing", "_law_again", "_law_step"]) (sc := defScope s_law) (by decide +kernel)) (fun _ _ _ _ _ => pg_name (i := 12) sc_l_law.nd rfl (.inl rfl)) (fun _ _ _ _ _ => pts_nil) (fun _ _ _ _ _ => (pe_call G_l_pick (hr.mono (by decide)) (by rfl) g_l_pick F_l_pick.kp b_l_pick .nil pass0 (pa_cons (pv 5) (pa_cons (pv 1) pa_nil)))))) 
            (C8.pss_cut (ps_if (pt_cmpR op_eq (pe_call G_l_draw (hr.mono (by decide)) (by rfl) g_l_draw F_l_draw.kp b_l_draw .nil pass0 (pa_cons (pv 5) (pa_cons pe_int pa_nil))) pe_int (nomark _)) 
              (pss_cons (ps_set (i := 8) sc_l_law.nd rfl (.inl rfl) (pe_call G_l_draw (hr.mono (by decide)) (by rfl) g_l_draw F_l_draw.kp b_l_draw .nil pass0 (pa_cons (pv 5) (pa_cons (pe_op op_add (pe_callB call_len_seq (by rfl) T.m_len PySem.boot_len (pa_cons (pv 7) pa_nil)) pe_int) pa_nil)))) 
              (pss_one (ps_set (i := 7) sc_l_law.nd rfl (.inr rfl) (pe_op op_cat (pe_op op_cat (pe_slice sl_list (pv 7) po_none (po_some (pv 8))) (pe_lst (pa_cons (pe_call G_l_pick (hr.mono (by decide)) (by rfl) g_l_pick F_l_pick.kp b_l_pick .nil pass0 (pa_cons (pv 5) (pa_cons (pv 2) pa_nil))) pa_nil))) (pe_slice sl_list (pv 7) (po_some (pv 8)) po_none))))) pss_nil) 
            (C8.pss_cut (ps_if (pt_cmpR op_eq (pe_call G_l_draw (hr.mono (by decide)) (by rfl) g_l_draw F_l_draw.kp b_l_draw .nil pass0 (pa_cons (pv 5) (pa_cons pe_int pa_nil))) pe_int (nomark _)) 
              (pss_one (ps_set (i := 7) sc_l_law.nd rfl (.inr rfl) (pe_lc (own := [("_law_at", 8), ("_law_step", 13)]) (g := gTup K 2 (gCons (gName 8) (gCons (gName 13) gNil))) rfl sc_l_law.nd (pi_enum (by rfl) T.m_enumerate (pa_cons (pv 7) pa_nil)) (blkOk_by (N := ["_law_script", "_law_some", "_law_odd", "_law_k", "_law_cell", "_law_pool_here", "_law_turn", "_law_steps", "_law_at", "_law_wrong_here", "_law_found", "_law_thing", "_law_again", "_law_step"]) (sc := defScope s_law) (by decide +kernel)) (fun _ _ _ _ _ => pg_tup rfl (pgs_cons (pg_name (i := 8) sc_l_law.nd rfl (.inl rfl)) (pgs_cons (pg_name (i := 13) sc_l_law.nd rfl (.inl rfl)) pgs_nil))) (fun _ _ _ _ _ => (pts_one (pt_cmpR (r := rNotInD K) (op_notInD (room65 hr)) (pv 13) (pe_slice (r := rSlL K) sl_list (pv 7) po_none (po_some (pv 8))) (by rfl)))) (fun _ _ _ _ _ => (pv 13))))) pss_nil) 
            (pss_cons (ps_par (i := 9) (j := 10) rfl sc_l_law.nd rfl rfl (by decide) rfl rfl (pa_cons (pe_call G_l_wrong (hr.mono (by decide)) (by rfl) g_l_wrong F_l_wrong.kp b_l_wrong .nil pass0 (pa_cons (pv 7) pa_nil)) (pa_cons (pe_call G_l_heard hr (by rfl) g_l_heard F_l_heard.kp b_l_heard .nil pass0 (pa_cons (pv 7) pa_nil)) pa_nil)) (by rfl)) 
            (pss_cons (ps_if (PW.pt (pw_and (pt_cmpR (op_neD hr.units) (pv 9) (pe_lst pa_nil) (nomark _)) (pw_and1 (pt_cmpR (op_neD hr.units) (pe_lst (pa_cons (pv 10) pa_nil)) (pv 9) (nomark _))))) 
              (pss_one (ps_ret pe_bl)) pss_nil) 
            (pss_one (ps_if (PW.pt (pw_and (pt_cmpR (op_eqD hr.units) (pv 9) (pe_lst pa_nil) (nomark _)) (pw_and1 (PW.pt (pw_or (pt_not (pt_val (pe_callB call_isi (by rfl) T.m_isinstance (by decide +kernel) (pa_cons (pv 10) (pa_cons (pe_bltn (v := .ty "list") (u := .type "list") (by rfl) T.m_list (by decide +kernel) rfl) pa_nil))))) (pw_or1 (pt_not (pt_val (pe_call G_l_right (hr.mono (by decide)) (by rfl) g_l_right F_l_right.kp b_l_right .nil pass0 (pa_cons (pe_ix ix_list (pv 10) pe_int (fun _ _ => rfl)) (pa_cons (pe_callTy call_tuple_of (by rfl) T.m_tuple (by decide +kernel) (pa_cons (pv 7) pa_nil)) pa_nil))))))))))) 
              (pss_one (ps_ret pe_bl)) pss_nil))))))))))) 
        (pss_cons (ps_for PassesOwn.never rfl (pi_list (pe_lst (pa_cons pe_non (pa_cons pe_int (pa_cons pe_str (pa_cons pe_dnewK (pa_cons pe_bl pa_nil))))))) (pg_name (i := 11) sc_l_law.nd rfl (.inl rfl)) 
          (pss_one (ps_if (pt_cmpR op_notN (pe_call G_l_heard hr (by rfl) g_l_heard F_l_heard.kp b_l_heard .nil pass0 (pa_cons (pv 11) pa_nil)) pe_non (nomark _)) 
            (pss_one (ps_ret pe_bl)) pss_nil))) 
        (pss_one (ps_ret (pe_and (pe_cmpR op_eq (pe_callB (call_lenO RE hr2 pass0 hE iE) (by rfl) T.m_len PySem.boot_len (pa_cons (pe_makeRS0 (E := fun _ => E0) M GI hr6 rfl CT.mgC (pat passL)) pa_nil)) pe_int (nomark _)) (pe_one (pe_cmpR (op_eqD hr.units) (pe_prop (pe_makeRS (E := fun _ => E0) M GI hr6 rfl CT.mgC (pat passL) (pa_cons (pe_tup (pa_cons pe_str pa_nil)) (pa_cons (pe_tup (pa_cons pe_str pa_nil)) pa_nil))) CT.cl PP GP hr2 bP .nil pass0 (by rfl)) (pe_tup (pa_cons (pe_tup (pa_cons pe_str pa_nil)) (pa_cons (pe_tup (pa_cons pe_str pa_nil)) pa_nil))) (nomark _))))))))))), ?_⟩
    have s0 := Same.refl H
    refine ⟨(by show 1 ≤ sizeLine; decide), fun t0 n0 => ?_⟩
    have sa := same_upd (o := .tup [V.str "out"]) n0
    replace s0 := s0.trans sa
    have da0 : ∀ v ∈ [V.ref t0], PD K 5 (upd H t0 (.tup [V.str "out"])) v := pd_snoc (ds := [.str "out"]) (fun v hv => nomatch hv : ∀ v ∈ ([] : List V), PD K 5 _ v) n0 (.cons (.str _) .nil) (by constructor <;> decide +kernel)
    clear sa
    generalize upd H t0 (.tup [V.str "out"]) = H1 at s0 da0 ⊢
    refine ⟨(by show 2 ≤ sizeLine; decide), fun t1 n1 => ?_⟩
    have sa := same_upd (o := .tup [V.str "mark", V.str "m"]) n1
    replace s0 := s0.trans sa
    have da1 : ∀ v ∈ [V.ref t0, V.ref t1], PD K 5 (upd H1 t1 (.tup [V.str "mark", V.str "m"])) v := pd_snoc (ds := [.str "mark", .str "m"]) da0 n1 (.cons (.str _) (.cons (.str _) .nil)) (by constructor <;> decide +kernel)
    clear sa
    generalize upd H1 t1 (.tup [V.str "mark", V.str "m"]) = H2 at s0 da1 ⊢
    refine ⟨(by show 2 ≤ sizeLine; decide), fun t2 n2 => ?_⟩
    have sa := same_upd (o := .tup [V.str "mark", V.str "gone"]) n2
    replace s0 := s0.trans sa
    have da2 : ∀ v ∈ [V.ref t0, V.ref t1, V.ref t2], PD K 5 (upd H2 t2 (.tup [V.str "mark", V.str "gone"])) v := pd_snoc (ds := [.str "mark", .str "gone"]) da1 n2 (.cons (.str _) (.cons (.str _) .nil)) (by constructor <;> decide +kernel)
    clear sa
    generalize upd H2 t2 (.tup [V.str "mark", V.str "gone"]) = H3 at s0 da2 ⊢
    refine ⟨(by show 1 ≤ sizeLine; decide), fun t3 n3 => ?_⟩
    have sa := same_upd (o := .tup [V.str "wait"]) n3
    replace s0 := s0.trans sa
    have da3 : ∀ v ∈ [V.ref t0, V.ref t1, V.ref t2, V.ref t3], PD K 5 (upd H3 t3 (.tup [V.str "wait"])) v := pd_snoc (ds := [.str "wait"]) da2 n3 (.cons (.str _) .nil) (by constructor <;> decide +kernel)
    clear sa
    generalize upd H3 t3 (.tup [V.str "wait"]) = H4 at s0 da3 ⊢
    refine ⟨(by show 1 ≤ sizeLine; decide), fun t4 n4 => ?_⟩
    have sa := same_upd (o := .tup [V.str "empty"]) n4
    replace s0 := s0.trans sa
    have da4 : ∀ v ∈ [V.ref t0, V.ref t1, V.ref t2, V.ref t3, V.ref t4], PD K 5 (upd H4 t4 (.tup [V.str "empty"])) v := pd_snoc (ds := [.str "empty"]) da3 n4 (.cons (.str _) .nil) (by constructor <;> decide +kernel)
    clear sa
    generalize upd H4 t4 (.tup [V.str "empty"]) = H5 at s0 da4 ⊢
    refine ⟨(by show 1 ≤ sizeLine; decide), fun t5 n5 => ?_⟩
    have sa := same_upd (o := .tup [V.str "down"]) n5
    replace s0 := s0.trans sa
    have da5 : ∀ v ∈ [V.ref t0, V.ref t1, V.ref t2, V.ref t3, V.ref t4, V.ref t5], PD K 5 (upd H5 t5 (.tup [V.str "down"])) v := pd_snoc (ds := [.str "down"]) da4 n5 (.cons (.str _) .nil) (by constructor <;> decide +kernel)
    clear sa
    generalize upd H5 t5 (.tup [V.str "down"]) = H6 at s0 da5 ⊢
    refine ⟨(by show 1 ≤ sizeLine; decide), fun t6 n6 => ?_⟩
    have sa := same_upd (o := .tup [V.str "let"]) n6
    replace s0 := s0.trans sa
    have da6 : ∀ v ∈ [V.ref t0, V.ref t1, V.ref t2, V.ref t3, V.ref t4, V.ref t5, V.ref t6], PD K 5 (upd H6 t6 (.tup [V.str "let"])) v := pd_snoc (ds := [.str "let"]) da5 n6 (.cons (.str _) .nil) (by constructor <;> decide +kernel)
    clear sa
    generalize upd H6 t6 (.tup [V.str "let"]) = H7 at s0 da6 ⊢
    refine ⟨(by show 2 ≤ sizeLine; decide), fun t7 n7 => ?_⟩
    have sa := same_upd (o := .tup [V.str "bar", V.str "w"]) n7
    replace s0 := s0.trans sa
    have da7 : ∀ v ∈ [V.ref t0, V.ref t1, V.ref t2, V.ref t3, V.ref t4, V.ref t5, V.ref t6, V.ref t7], PD K 5 (upd H7 t7 (.tup [V.str "bar", V.str "w"])) v := pd_snoc (ds := [.str "bar", .str "w"]) da6 n7 (.cons (.str _) (.cons (.str _) .nil)) (by constructor <;> decide +kernel)
    clear sa
    generalize upd H7 t7 (.tup [V.str "bar", V.str "w"]) = H8 at s0 da7 ⊢
    refine ⟨(by show 8 ≤ sizeLine; decide), fun t8 n8 => ?_⟩
    have sa := same_upd (o := .lst [V.ref t0, V.ref t1, V.ref t2, V.ref t3, V.ref t4, V.ref t5, V.ref t6, V.ref t7]) n8
    replace s0 := s0.trans sa
    replace da7 := fun v hv => (da7 v hv).same sa
    have ea : (upd H8 t8 (.lst [V.ref t0, V.ref t1, V.ref t2, V.ref t3, V.ref t4, V.ref t5, V.ref t6, V.ref t7])) t8 = some (.lst [V.ref t0, V.ref t1, V.ref t2, V.ref t3, V.ref t4, V.ref t5, V.ref t6, V.ref t7]) := upd_same
    clear sa
    generalize upd H8 t8 (.lst [V.ref t0, V.ref t1, V.ref t2, V.ref t3, V.ref t4, V.ref t5, V.ref t6, V.ref t7]) = H9 at s0 da7 ea ⊢
    refine ⟨_, rfl, ?_⟩
    refine ⟨(by show 2 ≤ sizeLine; decide), fun t9 n9 => ?_⟩
    have sa := same_upd (o := .tup [V.str "forget", V.str "w"]) n9
    replace s0 := s0.trans sa
    replace da7 := fun v hv => (da7 v hv).same sa
    replace ea := sa _ _ ea
    have db0 : ∀ v ∈ [V.ref t9], PD K 5 (upd H9 t9 (.tup [V.str "forget", V.str "w"])) v := pd_snoc (ds := [.str "forget", .str "w"]) (fun v hv => nomatch hv : ∀ v ∈ ([] : List V), PD K 5 _ v) n9 (.cons (.str _) (.cons (.str _) .nil)) (by constructor <;> decide +kernel)
    clear sa
    generalize upd H9 t9 (.tup [V.str "forget", V.str "w"]) = H10 at s0 da7 ea db0 ⊢
    refine ⟨(by show 2 ≤ sizeLine; decide), fun t10 n10 => ?_⟩
    have sa := same_upd (o := .tup [V.str "idle", V.str "v"]) n10
    replace s0 := s0.trans sa
    replace da7 := fun v hv => (da7 v hv).same sa
    replace ea := sa _ _ ea
    have db1 : ∀ v ∈ [V.ref t9, V.ref t10], PD K 5 (upd H10 t10 (.tup [V.str "idle", V.str "v"])) v := pd_snoc (ds := [.str "idle", .str "v"]) db0 n10 (.cons (.str _) (.cons (.str _) .nil)) (by constructor <;> decide +kernel)
    clear sa
    generalize upd H10 t10 (.tup [V.str "idle", V.str "v"]) = H11 at s0 da7 ea db1 ⊢
    refine ⟨(by show 1 ≤ sizeLine; decide), fun t11 n11 => ?_⟩
    have sa := same_upd (o := .tup [V.str "lock"]) n11
    replace s0 := s0.trans sa
    replace da7 := fun v hv => (da7 v hv).same sa
    replace ea := sa _ _ ea
    have db2 : ∀ v ∈ [V.ref t9, V.ref t10, V.ref t11], PD K 5 (upd H11 t11 (.tup [V.str "lock"])) v := pd_snoc (ds := [.str "lock"]) db1 n11 (.cons (.str _) .nil) (by constructor <;> decide +kernel)
    clear sa
    generalize upd H11 t11 (.tup [V.str "lock"]) = H12 at s0 da7 ea db2 ⊢
    refine ⟨(by show 1 ≤ sizeLine; decide), fun t12 n12 => ?_⟩
    have sa := same_upd (o := .tup [V.str "unlock"]) n12
    replace s0 := s0.trans sa
    replace da7 := fun v hv => (da7 v hv).same sa
    replace ea := sa _ _ ea
    have db3 : ∀ v ∈ [V.ref t9, V.ref t10, V.ref t11, V.ref t12], PD K 5 (upd H12 t12 (.tup [V.str "unlock"])) v := pd_snoc (ds := [.str "unlock"]) db2 n12 (.cons (.str _) .nil) (by constructor <;> decide +kernel)
    clear sa
    generalize upd H12 t12 (.tup [V.str "unlock"]) = H13 at s0 da7 ea db3 ⊢
    refine ⟨(by show 1 ≤ sizeLine; decide), fun t13 n13 => ?_⟩
    have sa := same_upd (o := .tup [V.str "lock"]) n13
    replace s0 := s0.trans sa
    replace da7 := fun v hv => (da7 v hv).same sa
    replace ea := sa _ _ ea
    have db4 : ∀ v ∈ [V.ref t9, V.ref t10, V.ref t11, V.ref t12, V.ref t13], PD K 5 (upd H13 t13 (.tup [V.str "lock"])) v := pd_snoc (ds := [.str "lock"]) db3 n13 (.cons (.str _) .nil) (by constructor <;> decide +kernel)
    clear sa
    generalize upd H13 t13 (.tup [V.str "lock"]) = H14 at s0 da7 ea db4 ⊢
    refine ⟨(by show 1 ≤ sizeLine; decide), fun t14 n14 => ?_⟩
    have sa := same_upd (o := .tup [V.str "unlock"]) n14
    replace s0 := s0.trans sa
    replace da7 := fun v hv => (da7 v hv).same sa
    replace ea := sa _ _ ea
    have db5 : ∀ v ∈ [V.ref t9, V.ref t10, V.ref t11, V.ref t12, V.ref t13, V.ref t14], PD K 5 (upd H14 t14 (.tup [V.str "unlock"])) v := pd_snoc (ds := [.str "unlock"]) db4 n14 (.cons (.str _) .nil) (by constructor <;> decide +kernel)
    clear sa
    generalize upd H14 t14 (.tup [V.str "unlock"]) = H15 at s0 da7 ea db5 ⊢
    refine ⟨(by show 6 ≤ sizeLine; decide), fun t15 n15 => ?_⟩
    have sa := same_upd (o := .lst [V.ref t9, V.ref t10, V.ref t11, V.ref t12, V.ref t13, V.ref t14]) n15
    replace s0 := s0.trans sa
    replace da7 := fun v hv => (da7 v hv).same sa
    replace ea := sa _ _ ea
    replace db5 := fun v hv => (db5 v hv).same sa
    have eb : (upd H15 t15 (.lst [V.ref t9, V.ref t10, V.ref t11, V.ref t12, V.ref t13, V.ref t14])) t15 = some (.lst [V.ref t9, V.ref t10, V.ref t11, V.ref t12, V.ref t13, V.ref t14]) := upd_same
    clear sa
    generalize upd H15 t15 (.lst [V.ref t9, V.ref t10, V.ref t11, V.ref t12, V.ref t13, V.ref t14]) = H16 at s0 da7 ea db5 eb ⊢
    refine ⟨t8, t15, _, _, rfl, rfl, ea, eb, (by show 14 ≤ sizeLine; decide), fun t16 n16 => ?_⟩
    have dc : ∀ v ∈ [V.ref t0, V.ref t1, V.ref t2, V.ref t3, V.ref t4, V.ref t5, V.ref t6, V.ref t7, V.ref t9, V.ref t10, V.ref t11, V.ref t12, V.ref t13, V.ref t14], PD K 5 H16 v := fun v hv => (List.mem_append.mp (show v ∈ [V.ref t0, V.ref t1, V.ref t2, V.ref t3, V.ref t4, V.ref t5, V.ref t6, V.ref t7] ++ [V.ref t9, V.ref t10, V.ref t11, V.ref t12, V.ref t13, V.ref t14] from hv)).elim (da7 v) (db5 v)
    clear da7 db5 ea eb
    have sa := same_upd (o := .lst ([V.ref t0, V.ref t1, V.ref t2, V.ref t3, V.ref t4, V.ref t5, V.ref t6, V.ref t7] ++ [V.ref t9, V.ref t10, V.ref t11, V.ref t12, V.ref t13, V.ref t14])) n16
    replace s0 := s0.trans sa
    replace dc := fun v hv => (dc v hv).same sa
    have eso : (upd H16 t16 (.lst ([V.ref t0, V.ref t1, V.ref t2, V.ref t3, V.ref t4, V.ref t5, V.ref t6, V.ref t7] ++ [V.ref t9, V.ref t10, V.ref t11, V.ref t12, V.ref t13, V.ref t14]))) t16 = some (.lst [V.ref t0, V.ref t1, V.ref t2, V.ref t3, V.ref t4, V.ref t5, V.ref t6, V.ref t7, V.ref t9, V.ref t10, V.ref t11, V.ref t12, V.ref t13, V.ref t14]) := upd_same
    clear sa
    generalize upd H16 t16 (.lst ([V.ref t0, V.ref t1, V.ref t2, V.ref t3, V.ref t4, V.ref t5, V.ref t6, V.ref t7] ++ [V.ref t9, V.ref t10, V.ref t11, V.ref t12, V.ref t13, V.ref t14])) = H17 at s0 dc eso ⊢
    refine ⟨(by show 1 ≤ sizeLine; decide), fun t17 n17 => ?_⟩
    have sa := same_upd (o := .tup [V.str "mark"]) n17
    replace s0 := s0.trans sa
    replace dc := fun v hv => (dc v hv).same sa
    replace eso := sa _ _ eso
    have o17 : PD K 5 (upd H17 t17 (.tup [V.str "mark"])) (V.ref t17) := ⟨.tuple [.str "mark"], .tup (.inl (.inl upd_same)) (.cons (.str _) .nil), by constructor <;> decide +kernel⟩
    clear sa
    generalize upd H17 t17 (.tup [V.str "mark"]) = H18 at s0 dc eso o17 ⊢
    refine ⟨(by show 1 ≤ sizeLine; decide), fun t18 n18 => ?_⟩
    have sa := same_upd (o := .tup [V.str "hold"]) n18
    replace s0 := s0.trans sa
    replace dc := fun v hv => (dc v hv).same sa
    replace eso := sa _ _ eso
    replace o17 := o17.same sa
    have o18 : PD K 5 (upd H18 t18 (.tup [V.str "hold"])) (V.ref t18) := ⟨.tuple [.str "hold"], .tup (.inl (.inl upd_same)) (.cons (.str _) .nil), by constructor <;> decide +kernel⟩
    clear sa
    generalize upd H18 t18 (.tup [V.str "hold"]) = H19 at s0 dc eso o17 o18 ⊢
    refine ⟨(by show 1 ≤ sizeLine; decide), fun t19 n19 => ?_⟩
    have sa := same_upd (o := .lst [V.str "out"]) n19
    replace s0 := s0.trans sa
    replace dc := fun v hv => (dc v hv).same sa
    replace eso := sa _ _ eso
    replace o17 := o17.same sa
    replace o18 := o18.same sa
    have o19 : PD K 5 (upd H19 t19 (.lst [V.str "out"])) (V.ref t19) := ⟨.list [.str "out"], .lst (.inl (.inl upd_same)) (.cons (.str _) .nil), by constructor <;> decide +kernel⟩
    clear sa
    generalize upd H19 t19 (.lst [V.str "out"]) = H20 at s0 dc eso o17 o18 o19 ⊢
    refine ⟨(by show 2 ≤ sizeLine; decide), fun t20 n20 => ?_⟩
    have sa := same_upd (o := .tup [V.str "out", V.str "a"]) n20
    replace s0 := s0.trans sa
    replace dc := fun v hv => (dc v hv).same sa
    replace eso := sa _ _ eso
    replace o17 := o17.same sa
    replace o18 := o18.same sa
    replace o19 := o19.same sa
    have o20 : PD K 5 (upd H20 t20 (.tup [V.str "out", V.str "a"])) (V.ref t20) := ⟨.tuple [.str "out", .str "a"], .tup (.inl (.inl upd_same)) (.cons (.str _) (.cons (.str _) .nil)), by constructor <;> decide +kernel⟩
    clear sa
    generalize upd H20 t20 (.tup [V.str "out", V.str "a"]) = H21 at s0 dc eso o17 o18 o19 o20 ⊢
    refine ⟨(by show 2 ≤ sizeLine; decide), fun t21 n21 => ?_⟩
    have sa := same_upd (o := .tup [V.str "bar", V.str "A"]) n21
    replace s0 := s0.trans sa
    replace dc := fun v hv => (dc v hv).same sa
    replace eso := sa _ _ eso
    replace o17 := o17.same sa
    replace o18 := o18.same sa
    replace o19 := o19.same sa
    replace o20 := o20.same sa
    have o21 : PD K 5 (upd H21 t21 (.tup [V.str "bar", V.str "A"])) (V.ref t21) := ⟨.tuple [.str "bar", .str "A"], .tup (.inl (.inl upd_same)) (.cons (.str _) (.cons (.str _) .nil)), by constructor <;> decide +kernel⟩
    clear sa
    generalize upd H21 t21 (.tup [V.str "bar", V.str "A"]) = H22 at s0 dc eso o17 o18 o19 o20 o21 ⊢
    refine ⟨(by show 0 ≤ sizeLine; decide), fun t22 n22 => ?_⟩
    have sa := same_upd (o := .tup []) n22
    replace s0 := s0.trans sa
    replace dc := fun v hv => (dc v hv).same sa
    replace eso := sa _ _ eso
    replace o17 := o17.same sa
    replace o18 := o18.same sa
    replace o19 := o19.same sa
    replace o20 := o20.same sa
    replace o21 := o21.same sa
    have o22 : PD K 5 (upd H22 t22 (.tup [])) (V.ref t22) := ⟨.tuple [], .tup (.inl (.inl upd_same)) .nil, by constructor <;> decide +kernel⟩
    clear sa
    generalize upd H22 t22 (.tup []) = H23 at s0 dc eso o17 o18 o19 o20 o21 o22 ⊢
    refine ⟨(by show 8 ≤ sizeLine; decide), fun t23 n23 => ?_⟩
    have dd : ∀ v ∈ [V.non, V.ref t17, V.ref t18, V.ref t19, V.ref t20, V.ref t21, V.ref t22, V.str "out"], PD K 5 H23 v := by
      intro v hv
      simp only [List.mem_cons, List.not_mem_nil, or_false] at hv
      rcases hv with rfl | rfl | rfl | rfl | rfl | rfl | rfl | rfl
      · exact ⟨.none, .non, by constructor <;> decide +kernel⟩
      · exact o17
      · exact o18
      · exact o19
      · exact o20
      · exact o21
      · exact o22
      · exact ⟨.str "out", .str _, by constructor <;> decide +kernel⟩
    clear o17
    clear o18
    clear o19
    clear o20
    clear o21
    clear o22
    have sa := same_upd (o := .lst [V.non, V.ref t17, V.ref t18, V.ref t19, V.ref t20, V.ref t21, V.ref t22, V.str "out"]) n23
    replace s0 := s0.trans sa
    replace dc := fun v hv => (dc v hv).same sa
    replace eso := sa _ _ eso
    replace dd := fun v hv => (dd v hv).same sa
    have eod : (upd H23 t23 (.lst [V.non, V.ref t17, V.ref t18, V.ref t19, V.ref t20, V.ref t21, V.ref t22, V.str "out"])) t23 = some (.lst [V.non, V.ref t17, V.ref t18, V.ref t19, V.ref t20, V.ref t21, V.ref t22, V.str "out"]) := upd_same
    clear sa
    generalize upd H23 t23 (.lst [V.non, V.ref t17, V.ref t18, V.ref t19, V.ref t20, V.ref t21, V.ref t22, V.str "out"]) = H24 at s0 dc eso dd eod ⊢
    refine ⟨_, rfl, _, rfl, a, _, rfl, s0.seq hS, fun t24 n24 => ?_⟩
    have sa := same_upd (o := .lst (cutV (ns.map V.int) none (some (8 : Int)))) n24
    replace s0 := s0.trans sa
    replace dc := fun v hv => (dc v hv).same sa
    replace eso := sa _ _ eso
    replace dd := fun v hv => (dd v hv).same sa
    replace eod := sa _ _ eod
    have ec : (upd H24 t24 (.lst (cutV (ns.map V.int) none (some (8 : Int))))) t24 = some (.lst (cutV (ns.map V.int) none (some (8 : Int)))) := upd_same
    clear sa
    generalize upd H24 t24 (.lst (cutV (ns.map V.int) none (some (8 : Int)))) = H25 at s0 dc eso dd eod ec ⊢
    refine ⟨(by show 1 ≤ sizeLine; decide), fun t25 n25 => ?_⟩
    have sa := same_upd (o := .lst [V.int 7]) n25
    replace s0 := s0.trans sa
    replace dc := fun v hv => (dc v hv).same sa
    replace eso := sa _ _ eso
    replace dd := fun v hv => (dd v hv).same sa
    replace eod := sa _ _ eod
    replace ec := sa _ _ ec
    have el : (upd H25 t25 (.lst [V.int 7])) t25 = some (.lst [V.int 7]) := upd_same
    clear sa
    generalize upd H25 t25 (.lst [V.int 7]) = H26 at s0 dc eso dd eod ec el ⊢
    refine ⟨_, rfl, Nat.zero_le _, fun t26 n26 => ?_⟩
    have sa := same_upd (o := .lst []) n26
    replace s0 := s0.trans sa
    replace dc := fun v hv => (dc v hv).same sa
    replace eso := sa _ _ eso
    replace dd := fun v hv => (dd v hv).same sa
    replace eod := sa _ _ eod
    replace ec := sa _ _ ec
    replace el := sa _ _ el
    have ee : (upd H26 t26 (.lst [])) t26 = some (.lst []) := upd_same
    clear sa
    generalize upd H26 t26 (.lst []) = H27 at s0 dc eso dd eod ec el ee ⊢
    refine ⟨_, _, .lst (s0.seq hS) (dp_ints ns), .lst (xs := []) (.inl (.inl ee)) .nil, ints_lay ns, rfl, .inr ⟨_, rfl, t25, _, [V.int 7], rfl, rfl, el, ?z1, ?z2, ?z3, fun t27 n27 => ?_⟩⟩
    case z1 => split <;> decide
    case z2 => split <;> decide
    case z3 => split <;> decide
    have sa := same_upd (o := .lst (List.replicate (if PyData.eqv (.list (ns.map PyData.int)) (.list []) = true then (1 : Int) else 0).toNat [V.int 7]).flatten) n27
    replace s0 := s0.trans sa
    replace dc := fun v hv => (dc v hv).same sa
    replace eso := sa _ _ eso
    replace dd := fun v hv => (dd v hv).same sa
    replace eod := sa _ _ eod
    replace ec := sa _ _ ec
    replace el := sa _ _ el
    replace ee := sa _ _ ee
    have er : (upd H27 t27 (.lst (List.replicate (if PyData.eqv (.list (ns.map PyData.int)) (.list []) = true then (1 : Int) else 0).toNat [V.int 7]).flatten)) t27 = some (.lst (List.replicate (if PyData.eqv (.list (ns.map PyData.int)) (.list []) = true then (1 : Int) else 0).toNat [V.int 7]).flatten) := upd_same
    clear sa
    generalize upd H27 t27 (.lst (List.replicate (if PyData.eqv (.list (ns.map PyData.int)) (.list []) = true then (1 : Int) else 0).toNat [V.int 7]).flatten) = H28 at s0 dc eso dd eod ec el ee er ⊢
    have hrl : (List.replicate (if PyData.eqv (.list (ns.map PyData.int)) (.list []) = true then (1 : Int) else 0).toNat [V.int 7]).flatten.length ≤ 1 := by
      split <;> decide
    have hcl : (cutV (ns.map V.int) none (some (8 : Int))).length ≤ ns.length := by
      have h := List.length_map (f := V.int) (as := ns)
      unfold cutV
      rw [List.length_take, List.length_drop]
      omega
    refine ⟨t24, t27, _, _, rfl, rfl, ec, er, ?z4, fun t28 n28 => ?_⟩
    case z4 =>
      exact Nat.le_of_lt (small1000 (by omega))
    obtain ⟨cells, hcells⟩ : ∃ cells : List V, cells = cutV (ns.map V.int) none (some (8 : Int)) ++ (List.replicate (if PyData.eqv (.list (ns.map PyData.int)) (.list []) = true then (1 : Int) else 0).toNat [V.int 7]).flatten := ⟨_, rfl⟩
    have hxs : ∀ x ∈ cells, ∃ c, x = V.int c := by
      intro x hx
      rw [hcells, List.mem_append] at hx
      rcases hx with hx | hx
      · obtain ⟨i, hi⟩ := List.getElem?_of_mem hx
        obtain ⟨c, _, e⟩ := List.mem_map.mp (cut_mem hi)
        exact ⟨c, e.symm⟩
      · obtain ⟨l, h1, h2⟩ := List.mem_flatten.mp hx
        rw [(List.mem_replicate.mp h1).2, List.mem_singleton] at h2
        exact ⟨7, h2⟩
    have hxl : cells.length ≤ 100 := by
      rw [hcells, List.length_append]
      omega
    rw [← hcells]
    have sa := same_upd (o := .lst cells) n28
    replace s0 := s0.trans sa
    replace dc := fun v hv => (dc v hv).same sa
    replace eso := sa _ _ eso
    replace dd := fun v hv => (dd v hv).same sa
    replace eod := sa _ _ eod
    replace ec := sa _ _ ec
    replace el := sa _ _ el
    replace ee := sa _ _ ee
    replace er := sa _ _ er
    have ep : (upd H28 t28 (.lst cells)) t28 = some (.lst cells) := upd_same
    clear sa
    generalize upd H28 t28 (.lst cells) = H29 at s0 dc eso dd eod ec el ee er ep ⊢
    clear ec el ee er hrl hcells
    refine ⟨t28, cells, rfl, .inl (.inl ep), ?_⟩
    refine for_it walk_enum (fun i σ H' => Same H29 H' ∧ ∃ y3 y4 y5 y6 y7 y8 y9 y10 y11 y12 y13 : Option V, σ = [some (.ref a), some (.ref t16), some (.ref t23), y3, y4, y5, y6, y7, y8, y9, y10, y11, y12, y13]) ⟨Same.refl _, _, _, _, _, _, _, _, _, _, _, _, rfl⟩ (fun i σ H' _ h => .inl (.inl (h.1 _ _ ep))) ?_ ?_
    · rintro i x σ Ha Hb hi ⟨s6, y3, y4, y5, y6, y7, y8, y9, y10, y11, y12, y13, rfl⟩ ⟨t, kk, x, rfl, ht, rfl, hk, hx⟩
      obtain ⟨c, rfl⟩ := hxs x (List.mem_of_getElem? hx)
      have ek : kk = .int (i : Nat) := (Option.some.inj hk).symm
      subst ek
      have hi100 : i < 100 := by omega
      have s7 := s6.trans (same_upd (o := .tup [.int (i : Nat), .int c]) ht)
      refine ⟨t, _, rfl, .inl (.inl upd_same), rfl, _, _, rfl, _, [], rfl, rfl, ?_⟩
      generalize upd Ha t (.tup [.int (i : Nat), .int c]) = Hc at s7 ⊢
      refine ⟨_, rfl, _, rfl, _, _, rfl, rfl, c, _, _, rfl, ⟨by omega, by omega⟩, ⟨by decide, by decide⟩, fun R H3 p sR k sH => ?_⟩
      have kso := (s7.trans sR) _ _ eso
      have kod := (s7.trans sR) _ _ eod
      have dso := fun v hv => (dc v hv).same (s7.trans sR)
      have dod := fun v hv => (dd v hv).same (s7.trans sR)
      refine ⟨3, rfl, by decide, by decide, for_range (lo := 0) (fun j σ H' => ∃ R1, Go p R H3 R1 H' ∧ ∃ y6 y7 y8 y9 y10 y11 y12 y13 : Option V, σ = [some (.ref a), some (.ref t16), some (.ref t23), some (.int (i : Nat)), some (.int c), some (.ref p), y6, y7, y8, y9, y10, y11, y12, y13]) ⟨R, k.go, _, _, _, _, _, _, _, _, rfl⟩ ?_ ?_⟩
      · rintro j σ H4 hj ⟨R1, g, y6, y7, y8, y9, y10, y11, y12, y13, rfl⟩
        refine ⟨_, rfl, p, 12, R1, rfl, by decide, g.rest, fun r5 H5 r50 r51 gi => ⟨_, rfl, by omega, by omega, fun D hD => ?_⟩⟩
        replace g := g.trans gi
        refine lc_go walk_range (n := r5.toNat) (by omega) g.rest hD (fun _ _ _ => trivial) (PD K 5) (fun _ _ _ s h => h.same s) ?_ ?_
        · rintro m x R9 H9 H9' hm g3 ⟨rfl, rfl⟩ C' E' hC
          exact ⟨rfl, yes_then ⟨_, rfl, _, rfl, p, t16, R9, [V.ref t0, V.ref t1, V.ref t2, V.ref t3, V.ref t4, V.ref t5, V.ref t6, V.ref t7, V.ref t9, V.ref t10, V.ref t11, V.ref t12, V.ref t13, V.ref t14], rfl, .inl (.inl (g3.same _ _ (g.same _ _ kso))), (by show 0 < 14; decide), g3.rest, fun x H' hx g5 => hC _ _ _ g5 ((dso x hx).same (g.same.trans g3.same))⟩⟩
        intro R5 H6 ys gi kD hl hP
        replace g := g.trans gi
        have sl : SLa K 11 R5 D := ⟨ys, kD, by omega, hP⟩
        clear kD hl hP gi hD
        refine ⟨(fun σ' H' => ∃ (R1 : Hp) (D : Addr), Go p R H3 R1 H' ∧ SLa K 12 R1 D ∧ ∃ y6 y8 y9 y10 y11 y12 y13 : Option V, σ' = [some (.ref a), some (.ref t16), some (.ref t23), some (.int (i : Nat)), some (.int c), some (.ref p), y6, some (.ref D), y8, y9, y10, y11, y12, y13]), ?_, ?_⟩
        · refine ⟨_, rfl, p, 4, _, rfl, by decide, g.rest, fun r6 H7 _ _ gi => ⟨rfl, _, rfl, ite2 (fun hz => ?_) (fun hz => ?_)⟩⟩
          · replace g := g.trans gi
            replace sl := sl.same gi.same
            obtain ⟨vs, kD, hvl, hvp⟩ := id sl
            refine ⟨_, rfl, _, rfl, D, vs, rfl, .inl (.inl (.inl (g.rest.1 _ _ kD))), _, _, rfl, rfl, p, _, _, rfl, by omega, g.rest, fun r7 H8 r70 r71 gi => ?_⟩
            replace g := g.trans gi
            replace kD := gi.same _ _ kD
            replace hvp := fun v hv => (hvp v hv).same gi.same
            refine ⟨_, rfl, _, rfl, _, rfl, D, vs, rfl, .inl (.inl (g.rest.1 _ _ kD)), fun q1 hq1 => ?_⟩
            obtain ⟨gi, kq1⟩ := lst_raw (cutV vs none (some r7)) g.rest hq1
            replace g := g.trans gi
            replace kD := gi.same _ _ kD
            replace hvp := fun v hv => (hvp v hv).same gi.same
            refine ⟨_, rfl, _, rfl, p, t23, _, [V.non, V.ref t17, V.ref t18, V.ref t19, V.ref t20, V.ref t21, V.ref t22, V.str "out"], rfl, .inl (.inl (g.same _ _ kod)), (by show 0 < 8; decide), g.rest, fun x1 H9 hx1 gi => ⟨(by show 1 ≤ sizeLine; decide), fun q2 hq2 => ?_⟩⟩
            replace g := g.trans gi
            replace kD := gi.same _ _ kD
            replace kq1 := gi.same _ _ kq1
            replace hvp := fun v hv => (hvp v hv).same gi.same
            have hx2 := (dod x1 hx1).same g.same
            obtain ⟨gi, kq2⟩ := lst_raw ([x1]) g.rest hq2
            replace g := g.trans gi
            replace kD := gi.same _ _ kD
            replace kq1 := gi.same _ _ kq1
            replace hvp := fun v hv => (hvp v hv).same gi.same
            replace hx2 := hx2.same gi.same
            have hc1 : (cutV vs none (some r7)).length ≤ vs.length := by
              unfold cutV
              rw [List.length_take, List.length_drop]
              omega
            have hc2 : (cutV vs (some r7) none).length ≤ vs.length := by
              unfold cutV
              rw [List.length_take, List.length_drop]
              omega
            have hc3 := cut_both vs r70
            refine ⟨q1, q2, _, _, rfl, rfl, g.rest.1 _ _ kq1, g.rest.1 _ _ kq2, Nat.le_of_lt (small1000 (by rw [List.length_singleton]; omega)), fun q3 hq3 => ?_⟩
            obtain ⟨gi, kq3⟩ := lst_raw (cutV vs none (some r7) ++ [x1]) g.rest hq3
            replace g := g.trans gi
            replace kD := gi.same _ _ kD
            replace hvp := fun v hv => (hvp v hv).same gi.same
            replace hx2 := hx2.same gi.same
            refine ⟨_, rfl, _, rfl, _, rfl, D, vs, rfl, .inl (.inl (g.rest.1 _ _ kD)), fun q4 hq4 => ?_⟩
            obtain ⟨gi, kq4⟩ := lst_raw (cutV vs (some r7) none) g.rest hq4
            replace g := g.trans gi
            replace kq3 := gi.same _ _ kq3
            replace hvp := fun v hv => (hvp v hv).same gi.same
            replace hx2 := hx2.same gi.same
            refine ⟨q3, q4, _, _, rfl, rfl, g.rest.1 _ _ kq3, g.rest.1 _ _ kq4, Nat.le_of_lt (small1000 (by rw [List.length_append, List.length_singleton]; omega)), fun q5 hq5 => ?_⟩
            obtain ⟨gi, kq5⟩ := lst_raw ((cutV vs none (some r7) ++ [x1]) ++ cutV vs (some r7) none) g.rest hq5
            replace g := g.trans gi
            replace hvp := fun v hv => (hvp v hv).same gi.same
            replace hx2 := hx2.same gi.same
            refine ⟨_, q5, g, ⟨_, kq5, ?_, fun v hv => ?_⟩, _, _, _, _, _, _, _, rfl⟩
            · rw [List.length_append, List.length_append, List.length_singleton]
              omega
            · rw [List.mem_append, List.mem_append, List.mem_singleton] at hv
              rcases hv with (hv | rfl) | hv
              · obtain ⟨n, hn⟩ := List.getElem?_of_mem hv
                exact hvp v (cut_mem hn)
              · exact hx2
              · obtain ⟨n, hn⟩ := List.getElem?_of_mem hv
                exact hvp v (cut_mem hn)
          · exact ⟨_, D, g.trans gi, (sl.same gi.same).mono (by decide), _, _, _, _, _, _, _, rfl⟩
        clear sl g
        rintro σ' H' ⟨R1, D, g, sl, y6, y8, y9, y10, y11, y12, y13, rfl⟩
        obtain ⟨vs, kD, hvl, hvp⟩ := id sl
        refine ⟨(fun σ' H' => ∃ (R1 : Hp) (D : Addr), Go p R H3 R1 H' ∧ SLa K 12 R1 D ∧ ∃ y6 y8 y9 y10 y11 y12 y13 : Option V, σ' = [some (.ref a), some (.ref t16), some (.ref t23), some (.int (i : Nat)), some (.int c), some (.ref p), y6, some (.ref D), y8, y9, y10, y11, y12, y13]), ?_, ?_⟩
        · refine ⟨_, rfl, p, 2, _, rfl, by decide, g.rest, fun r6 H7 _ _ gi => ⟨rfl, _, rfl, ite2 (fun hz => ?_) (fun hz => ?_)⟩⟩
          · replace g := g.trans gi
            replace kD := gi.same _ _ kD
            replace hvp := fun v hv => (hvp v hv).same gi.same
            obtain ⟨ds, hda, hdg⟩ := pd_all hvp
            have hdl := dpAll_len hda
            refine ⟨_, rfl, D, vs, rfl, .inl (.inl (g.rest.1 _ _ kD)), fun D2 hD2 => lc_it walk_enum (fun j H' => Same H7 H' ∧ ∃ acc : List V, H' D2 = some (.lst acc) ∧ acc.length ≤ j ∧ ∀ v ∈ acc, v ∈ vs) ⟨same_upd hD2, [], upd_same, Nat.le_refl _, fun v hv => nomatch hv⟩ (fun j H' _ h => .inl (.inl (h.1 _ _ (g.rest.1 _ _ kD)))) ?_ ?_⟩
            · rintro m x Hd He hm ⟨s8, acc, e8, hal, hap⟩ ⟨t, u, v, rfl, ht, rfl, hu, hv⟩
              have eu : u = .int (m : Nat) := (Option.some.inj hu).symm
              subst eu
              have s9 := same_upd (o := .tup [.int (m : Nat), v]) ht
              have hv : vs[m]? = some v := hv
              have hmd : m < ds.length := by omega
              have hdv := dpAll_at hda hv (List.getElem?_eq_getElem hmd)
              have hgd := (hdg _ (List.getElem_mem hmd)).lay (by decide)
              have keep := fun (Hx : Hp) (sx : Same (upd Hd t (.tup [.int (m : Nat), v])) Hx) => g.rest.1.trans ((s8.trans s9).trans sx)
              refine ⟨t, _, rfl, .inl (.inl upd_same), rfl, _, _, rfl, _, [], rfl, rfl, rfl, _, rfl, _, rfl, _, rfl, _, rfl, D, vs, rfl, .inl (.inl (keep _ (Same.refl _) _ _ kD)), fun q1 hq1 => ?_⟩
              have s10 := same_upd (o := .lst (cutV vs none (some (m : Int)))) hq1
              refine ⟨ds[m], cutG ds none (some (m : Int)), dp_same (keep _ s10) _ _ hdv, .lst (.inl (.inl upd_same)) (dpAll_same (keep _ s10) _ _ (dpAll_cut hda none (some (m : Int)))), hgd, ?_, _, rfl, ite2 (fun _ => ?_) (fun _ => ?_)⟩
              · have g6 : Good 6 (.list (cutG ds none (some (m : Int)))) := Good.lst.mpr ⟨Nat.le_trans (cutG_len ds none (some (m : Int))) (by omega), fun d hd => hdg d (cutG_mem hd)⟩
                exact g6.lay (by decide)
              · refine ⟨_, rfl, acc, (s9.trans s10) _ _ e8, small1000 (by omega), same_st (s8.trans (s9.trans s10)) hD2, acc ++ [v], upd_same, ?_, fun y hy => ?_⟩
                · rw [List.length_append, List.length_singleton]
                  omega
                · rw [List.mem_append, List.mem_singleton] at hy
                  rcases hy with hy | rfl
                  · exact hap y hy
                  · exact List.mem_of_getElem? hv
              · exact ⟨s8.trans (s9.trans s10), acc, (s9.trans s10) _ _ e8, by omega, hap⟩
            · rintro H9 ⟨s9, acc, e9, hal, hap⟩
              have hDp := g.rest.ne hD2
              have hRD : _ = none := g.rest.1.free hD2
              have g2 := Go.same_heap g.rest s9
              have g3 := go_show g2 hD2 hRD hDp e9
              exact ⟨_, D2, g.trans g3, ⟨acc, upd_same, by omega, fun v hv => (hvp v (hap v hv)).same (same_upd hRD)⟩, _, _, _, _, _, _, _, rfl⟩
          · exact ⟨_, D, g.trans gi, sl.same gi.same, _, _, _, _, _, _, _, rfl⟩
        clear kD hvl hvp vs sl g
        rintro σ' H' ⟨R1, D, g, sl, y6, y8, y9, y10, y11, y12, y13, rfl⟩
        obtain ⟨vs, kD, hvl, hvp⟩ := id sl
        obtain ⟨ds, hda, hdg⟩ := pd_all hvp
        have hdl := dpAll_len hda
        have hD : H' D = some (.lst vs) := g.rest.1 _ _ kD
        have hda2 := dpAll_same g.rest.1 _ _ hda
        have hgl : Good 60 (.list ds) := (Good.lst (n := 5)).mpr ⟨by omega, hdg⟩ |>.mono (by decide)
        have hgt : Good 60 (.tuple ds) := hgl
        refine ⟨_, rfl, .ref D, ds, rfl, ⟨D, vs, rfl, hD, hda2⟩, hgl, fun H5 pw s5 hpw epw => ⟨_, rfl, .ref D, .list ds, rfl, .inl ⟨.lst (.inl (.inl (s5 _ _ hD))) (dpAll_same s5 _ _ hda2), hgl⟩, fun ds' e hw H6 r l s6 hl row el => ?_, fun v hv H6 s6 => ?_⟩⟩
        · cases e
          rw [hw] at epw
          have epw6 := s6 _ _ epw
          have t6 := s5.trans s6
          refine ⟨_, _, rfl, _, rfl, Nat.zero_le _, fun u hu => ⟨.list [], .list [], .lst (xs := []) (.inl (.inl ((same_upd hu) _ _ epw6))) .nil, .lst (xs := []) (.inl (.inl upd_same)) .nil, rfl, rfl, _, rfl, iteB (c := false) rfl (iteF ?_)⟩⟩
          have s7 := same_upd (o := .lst []) hu
          refine ⟨_, rfl, Nat.zero_le _, fun u2 hu2 => ⟨.list [], .list [], .lst (xs := []) (.inl (.inl ((s7.trans (same_upd hu2)) _ _ epw6))) .nil, .lst (xs := []) (.inl (.inl upd_same)) .nil, rfl, rfl, _, rfl, iteB (c := true) rfl (iteT ?_)⟩⟩
          have s8 := s7.trans (same_upd (o := .lst []) hu2)
          refine ⟨_, rfl, _, _, _, _, true, rfl, .ty "list", .base (.lst (s8 _ _ el)), kit_ty (by decide +kernel), _, rfl, iteF ?_⟩
          refine ⟨_, rfl, l, [.ref r], _, _, rfl, rfl, .inl (.inl (s8 _ _ el)), atI_nat (j := 0) rfl, _, rfl, D, vs, rfl, .inl ⟨.inl (.inl ((t6.trans s8) _ _ hD)), fun tt htt => ?_⟩⟩
          have s9 := s8.trans (same_upd (o := .tup vs) htt)
          refine ⟨r, .ref tt, ds, rfl, row.same s9, .inl ⟨.tup (.inl (.inl upd_same)) (dpAll_same (t6.trans s9) _ _ hda2), hgt⟩, fun H8 s10 => ⟨_, rfl, iteF ?_⟩⟩
          exact ⟨R1, g.trans (Go.same_heap g.rest ((t6.trans s9).trans s10)), _, _, _, _, _, _, _, _, rfl⟩
        · have hv : wrongV ds = some v := hv
          rw [hv] at epw
          have epw6 := s6 _ _ epw
          have t6 := s5.trans s6
          obtain ⟨dv, hdv, hg1, hne⟩ : ∃ dv : PyData, (∀ Hx, Dp K Hx v dv) ∧ SeqAt.shaped (.list [dv]) = true ∧ PyData.eqv (.list [dv]) (.list []) = false := by
            rcases wrong_flat hv with ⟨i, _, rfl⟩ | rfl
            · exact ⟨.int i, fun _ => .int i, rfl, rfl⟩
            · exact ⟨.none, fun _ => .non, rfl, rfl⟩
          have hrf : PyData.eqv (.list [dv]) (.list [dv]) = true := SeqAt.eqv_refl _ (SeqAt.canLay_of_shaped hg1)
          refine ⟨_, _, rfl, _, rfl, Nat.zero_le _, fun u hu => ⟨.list [dv], .list [], .lst (xs := [v]) (.inl (.inl ((same_upd hu) _ _ epw6))) (.cons (hdv _) .nil), .lst (xs := []) (.inl (.inl upd_same)) .nil, hg1, rfl, _, rfl, iteB (c := true) (by rw [hne]; rfl) (iteT ?_)⟩⟩
          have s7 := same_upd (o := .lst []) hu
          refine ⟨_, rfl, (by show 1 ≤ sizeLine; decide), fun u2 hu2 => ⟨_, rfl, .list [dv], .list [dv], .lst (xs := [v]) (.inl (.inl upd_same)) (.cons (hdv _) .nil), .lst (xs := [v]) (.inl (.inl ((s7.trans (same_upd hu2)) _ _ epw6))) (.cons (hdv _) .nil), hg1, hg1, _, rfl, iteB (c := false) (by rw [hrf]; rfl) (iteF ?_)⟩⟩
          have s8 := s7.trans (same_upd (o := .lst [v]) hu2)
          refine ⟨_, rfl, Nat.zero_le _, fun u3 hu3 => ⟨.list [dv], .list [], .lst (xs := [v]) (.inl (.inl ((s8.trans (same_upd hu3)) _ _ epw6))) (.cons (hdv _) .nil), .lst (xs := []) (.inl (.inl upd_same)) .nil, hg1, rfl, _, rfl, iteB (c := false) (by rw [hne]) (iteF ?_)⟩⟩
          exact ⟨R1, g.trans (Go.same_heap g.rest ((t6.trans s8).trans (same_upd hu3))), _, _, _, _, _, _, _, _, rfl⟩
      · rintro σ H' ⟨R1, g, y6, y7, y8, y9, y10, y11, y12, y13, rfl⟩
        exact ⟨s7.trans (sR.trans (g.same.trans g.rest.1)), _, _, _, _, _, _, _, _, _, _, _, rfl⟩
    · rintro σ Ha ⟨s6, y3, y4, y5, y6, y7, y8, y9, y10, y11, y12, y13, rfl⟩
      refine fun d3 n3 => ⟨(by show 5 ≤ sizeLine; decide), fun l4 n4 => ?_⟩
      have sd := same_upd (o := .dK []) n3
      have sl4 := same_upd (o := .lst [V.non, .int 5, .str "out", .ref d3, .bl true]) n4
      have ed := sl4 _ _ (upd_same (H := Ha) (a := d3) (o := .dK []))
      replace s6 := s6.trans (sd.trans sl4)
      refine ⟨_, rfl, ⟨_, .inl (.inl upd_same)⟩, ?_⟩
      refine for_list (xs := [.non, .int 5, .str "out", .ref d3, .bl true]) (fun i σ H' => Same _ H' ∧ ∃ y3 y4 y5 y6 y7 y8 y9 y10 y11 y12 y13 : Option V, σ = [some (.ref a), some (.ref t16), some (.ref t23), y3, y4, y5, y6, y7, y8, y9, y10, y11, y12, y13]) ⟨Same.refl _, _, _, _, _, _, _, _, _, _, _, _, rfl⟩ (fun i σ H' _ h => .inl (.inl (h.1 _ _ upd_same))) ?_ ?_
      · rintro j x σ H2 hx ⟨s2, y3, y4, y5, y6, y7, y8, y9, y10, y11, y12, y13, rfl⟩
        have hm := List.mem_of_getElem? hx
        simp only [List.mem_cons, List.not_mem_nil, or_false] at hm
        obtain ⟨d, hd, hr0, hw⟩ : ∃ d, Val K H2 x d ∧ rowOf d = none ∧ wrongO d = some .non := by
          rcases hm with rfl | rfl | rfl | rfl | rfl
          · exact ⟨.none, .inl ⟨.non, by constructor <;> decide⟩, rfl, rfl⟩
          · exact ⟨.int 5, .inl ⟨.int 5, by constructor <;> decide⟩, rfl, rfl⟩
          · exact ⟨.str "out", .inl ⟨.str "out", by constructor <;> decide +kernel⟩, rfl, rfl⟩
          · exact ⟨.dict [], .inr ⟨rfl, _, _, rfl, s2 _ _ ed⟩, rfl, rfl⟩
          · exact ⟨.bool true, .inl ⟨.bl true, by constructor <;> decide⟩, rfl, rfl⟩
        refine ⟨_, rfl, x, d, rfl, hd, fun ds e => ?_, fun v hv H3 s3 => ?_⟩
        · rw [hr0] at e
          exact nomatch e
        · rw [hw] at hv
          cases hv
          exact ⟨rfl, _, rfl, iteB (c := false) (by decide) (iteF ⟨s2.trans s3, _, _, _, _, _, _, _, _, _, _, _, rfl⟩)⟩
      · rintro σ H2 ⟨s2, y3, y4, y5, y6, y7, y8, y9, y10, y11, y12, y13, rfl⟩
        refine made_row (K := K) .nil (by constructor <;> decide) (by decide +kernel) (Nat.zero_le _) fun H3 r s3 n3r row => ?_
        obtain ⟨dx0, p0, l0, g1, _⟩ := id row
        refine ⟨r, dx0, _, rfl, g1, r, [], rfl, row, 0, rfl, by decide, rfl, _, rfl, iteB (c := true) (by decide) (iteT ?_)⟩
        refine ⟨(by show 1 ≤ sizeLine; decide), fun u1 m1 => ⟨(by show 1 ≤ sizeLine; decide), fun u2 m2 => ?_⟩⟩
        have sb := same_upd (o := .tup [V.str "let"]) m2
        have e1 := sb _ _ (upd_same (H := H3) (a := u1) (o := .tup [V.str "out"]))
        have e2 := upd_same (H := upd H3 u1 (.tup [V.str "out"])) (a := u2) (o := .tup [V.str "let"])
        generalize upd (upd H3 u1 (.tup [V.str "out"])) u2 (.tup [V.str "let"]) = H4 at e1 e2 ⊢
        refine made_row (K := K) (ds := [.tuple [.str "out"], .tuple [.str "let"]]) (.cons (.tup (.inl (.inl e1)) (.cons (.str _) .nil)) (.cons (.tup (.inl (.inl e2)) (.cons (.str _) .nil)) .nil)) (by constructor <;> decide +kernel) (by decide +kernel) (by show 2 ≤ sizeLine; decide) fun H5 r2 s5 n5r row2 => ?_
        obtain ⟨dx1, p1, l1, g2, hv2, _⟩ := id row2
        refine ⟨r2, dx1, _, rfl, g2, r2, dx1, _, _, rfl, g2, rfl, ?_⟩
        refine ⟨(by show 1 ≤ sizeLine; decide), fun u3 m3 => ⟨(by show 1 ≤ sizeLine; decide), fun u4 m4 => ⟨(by show 2 ≤ sizeLine; decide), fun u5 m5 => ?_⟩⟩⟩
        have sc := same_upd (o := .tup [V.str "let"]) m4
        have sd5 := same_upd (o := .tup [V.ref u3, V.ref u4]) m5
        have se := (same_upd (o := .tup [V.str "out"]) m3).trans (sc.trans sd5)
        have e3 := (sc.trans sd5) _ _ (upd_same (H := H5) (a := u3) (o := .tup [V.str "out"]))
        have e4 := sd5 _ _ (upd_same (H := upd H5 u3 (.tup [V.str "out"])) (a := u4) (o := .tup [V.str "let"]))
        rcases hv2.same se with ⟨hd2, _⟩ | ⟨hz, _⟩
        · refine ⟨.tuple [.tuple [.str "out"], .tuple [.str "let"]], .tuple [.tuple [.str "out"], .tuple [.str "let"]], hd2, .tup (.inl (.inl upd_same)) (.cons (.tup (.inl (.inl e3)) (.cons (.str _) .nil)) (.cons (.tup (.inl (.inl e4)) (.cons (.str _) .nil)) .nil)), by decide +kernel, by decide +kernel, ?_⟩
          have hq := q (upd (upd (upd H5 u3 (.tup [V.str "out"])) u4 (.tup [V.str "let"])) u5 (.tup [V.ref u3, V.ref u4]))
          exact hq
        · exact nomatch hz
end
end K06

namespace K06
open PySem PySem.Spec PyProof.Rows L2 TL GG OO

theorem vals_abs : ∀ (us : List Value) (xs : List V), us.map absV = xs.map some → Vals xs us
  | [], [], _ => .nil
  | [], _ :: _, h => by cases h
  | _ :: _, [], h => by cases h
  | u :: us, x :: xs, h => by
    rw [List.map_cons, List.map_cons, List.cons.injEq] at h
    refine .cons ?_ (vals_abs us xs h.2)
    have h1 := h.1
    cases u <;> simp only [absV] at h1 <;> cases h1 <;> first | rfl | exact ⟨_, rfl⟩
theorem tup_of {K : PySem.W.Frag} {a : Addr} {od : Option Addr} {its : Array Value} {n : Nat} {sl : Array (Option Value)} {ws : List Str} (h : K.lookup a = some ⟨.type "tuple", od, .seq its n, sl⟩) (hv : its.toList.map absV = (ws.map V.str).map some) (hl : ws.length ≤ 1000) : ∀ H, SqT K H a (ws.map V.str) := fun H => by
  have r := vals_abs its.toList _ hv
  refine .inr ⟨_, its, n, h, rfl, rfl, ?_, r⟩
  have e := r.length
  simp only [List.length_map, Array.length_toList] at e
  exact Nat.le_of_lt (small1000 (by rw [← e]; exact hl))
theorem all_mk {l : PySem.W.OpenLaw} {w : World} {K : PySem.W.Frag} {h : Heap} {mg : Str → Option Value} {fa C S N pe sm pp MS MN f1 f2 f3 f4 f5 f6 f7 f8 f9 f10 f11 f12 f13 f14 f15 f16 f17 f18 f19 f20 f21 f22 f23 f24 f25 f26 f27 t4 t5 t6 : Addr} {lt0 lt1 : Tok} {rS rP : List Value} (X : K.In h) (G : h.Ns mainGlobals mg) (hfa : mg "law" = some (.ref fa))
    {od1 od2 od3 od4 od5 od6 od7 od8 od9 od10 od11 od12 od13 od14 od15 od16 od17 od18 od19 od20 od21 od22 od23 od24 od25 od26 od27 an1 an2 an3 an4 an5 an6 an7 an8 an9 an10 an11 an12 an13 an14 an15 an16 an17 an18 an19 an20 an21 an22 an23 an24 an25 an26 an27 tot4 tot5 tot6 ddS ddN : Option Addr} {sl1 sl2 sl3 sl4 sl5 sl6 sl7 sl8 sl9 sl10 sl11 sl12 sl13 sl14 sl15 sl16 sl17 sl18 sl19 sl20 sl21 sl22 sl23 sl24 sl25 sl26 sl27 tst4 tst5 tst6 : Array (Option Value)} {oc1 kV1 dc1 pm1 cd1 ct1 oc2 kV2 dc2 pm2 cd2 ct2 oc3 kV3 dc3 pm3 cd3 ct3 oc4 kV4 dc4 pm4 cd4 ct4 oc5 kV5 dc5 pm5 cd5 ct5 oc6 kV6 dc6 pm6 cd6 ct6 oc7 kV7 dc7 pm7 cd7 ct7 oc8 kV8 dc8 pm8 cd8 ct8 oc9 kV9 dc9 pm9 cd9 ct9 oc10 kV10 dc10 pm10 cd10 ct10 oc11 kV11 dc11 pm11 cd11 ct11 oc12 kV12 dc12 pm12 cd12 ct12 oc13 kV13 dc13 pm13 cd13 ct13 oc14 kV14 dc14 pm14 cd14 ct14 oc15 kV15 dc15 pm15 cd15 ct15 oc16 kV16 dc16 pm16 cd16 ct16 oc17 kV17 dc17 pm17 cd17 ct17 oc18 kV18 dc18 pm18 cd18 ct18 oc19 kV19 dc19 pm19 cd19 ct19 oc20 kV20 dc20 pm20 cd20 ct20 oc21 kV21 dc21 pm21 cd21 ct21 oc22 kV22 dc22 pm22 cd22 ct22 oc23 kV23 dc23 pm23 cd23 ct23 oc24 kV24 dc24 pm24 cd24 ct24 oc25 kV25 dc25 pm25 cd25 ct25 oc26 kV26 dc26 pm26 cd26 ct26 oc27 kV27 dc27 pm27 cd27 ct27 : Value} {tit4 tit5 tit6 : Array Value} {tnt4 tnt5 tnt6 : Nat}
    {nnS qS nnN qN : Str} {bsS bsN : List Value} {snS snN : List Str} {subS subN : List Value} {abS abN : Bool} {colS colN : Option Bool} {u0S u1S u2S u3S u5S u0N u1N u2N u3N u5N : Option Value}
    (aC : PySem.W.nsIn K mainGlobals "PullRow" = some (some (.ref C)))
    (aS : PySem.W.nsIn K mainGlobals "InvalidStep" = some (some (.ref S)))
    (xS : K.lookup S = some (excClassObj nnS qS S MS bsS (.ref pe :: [.type "ValueError", .type "Exception", .type "BaseException", .type "object"]) true snS subS abS colS ddS u0S u1S u2S u3S u5S "ValueError.__new__"))
    (saS : PySem.W.findIn K (.ref S) "__setattr__" = some (some (.builtin "object.__setattr__")))
    (exS : PySem.W.subIn K (.ref S) (.type "BaseException") = some true)
    (tyS : PySem.W.typeIn K (.ref S) = some (.type "type"))
    (kpS : PySem.W.keepIn K (.ref S) = true)
    (noS : PySem.W.findIn K (.ref S) "index" = some none)
    (gaS : PySem.W.findIn K (.ref S) "__getattribute__" = some (some (.builtin "BaseException.__getattribute__")))
    (ggS : PySem.W.findIn K (.ref S) "__getattr__" = some none)
    (hdS : PySem.W.hasDictIn K S = true)
    (iiS : PySem.W.findIn K (.ref S) "__init__" = some (some (.ref f19)))
    (tiS : PySem.W.typeIn K (.ref f19) = some (.type "function"))
    (icS : PySem.W.isClsIn K S = true)
    (ssS : PySem.W.subIn K (.ref S) (.ref S) = some true)
    (aN : PySem.W.nsIn K mainGlobals "InvalidNumber" = some (some (.ref N)))
    (xN : K.lookup N = some (excClassObj nnN qN N MN bsN [.type "ValueError", .type "Exception", .type "BaseException", .type "object"] true snN subN abN colN ddN u0N u1N u2N u3N u5N "ValueError.__new__"))
    (saN : PySem.W.findIn K (.ref N) "__setattr__" = some (some (.builtin "object.__setattr__")))
    (exN : PySem.W.subIn K (.ref N) (.type "BaseException") = some true)
    (tyN : PySem.W.typeIn K (.ref N) = some (.type "type"))
    (kpN : PySem.W.keepIn K (.ref N) = true)
    (noN : PySem.W.findIn K (.ref N) "value" = some none)
    (gaN : PySem.W.findIn K (.ref N) "__getattribute__" = some (some (.builtin "BaseException.__getattribute__")))
    (ggN : PySem.W.findIn K (.ref N) "__getattr__" = some none)
    (hdN : PySem.W.hasDictIn K N = true)
    (iiN : PySem.W.findIn K (.ref N) "__init__" = some (some (.ref f20)))
    (tiN : PySem.W.typeIn K (.ref f20) = some (.type "function"))
    (icN : PySem.W.isClsIn K N = true)
    (ssN : PySem.W.subIn K (.ref N) (.ref N) = some true)
    (pgC : PySem.W.plainGet K C Str.empty = true)
    (hdC : PySem.W.hasDictIn K C = true)
    (poC : PySem.W.plainOver K C = true)
    (saC : PySem.W.findIn K (.ref C) "__setattr__" = some (some (.builtin "object.__setattr__")))
    (mkC : PySem.W.makesIn K C = true)
    (kpC : PySem.W.keepIn K (.ref C) = true)
    (nP : PySem.W.findIn K (.ref C) "_parts" = some none)
    (nL : PySem.W.findIn K (.ref C) "_locked" = some none)
    (rdC : PySem.W.readsIn K C (.type "type") = true)
    (gaC : PySem.W.specialIn K (.ref C) "__getattribute__" = some (some (.builtin "type.__getattribute__")))
    (sm1 : PySem.W.findCls K (.ref C) (.type "type") "of" = some (.get (.builtin "staticmethod.__get__") (.ref sm) .none (.ref C)))
    (sm2 : PySem.W.recIn K sm "staticmethod" = some (.ref f22 :: rS))
    (pp1 : PySem.W.findIn K (.ref C) "parts" = some (some (.ref pp)))
    (pp2 : PySem.W.specialIn K (.ref pp) "__get__" = some (some (.builtin "property.__get__")))
    (pp3 : PySem.W.takesIn K (.ref pp) = some true)
    (pp4 : PySem.W.recIn K pp "property" = some (.ref f23 :: rP))
    (a1 : PySem.W.nsIn K mainGlobals "is_name" = some (some (.ref f1)))
    (l1 : K.lookup f1 = some ⟨oc1, od1, .func (PySem.W.fnOf "is_name" "is_name" (defArgs s_is_name) (defBody s_is_name) (defScope s_is_name) .none kV1 dc1 pm1 an1 cd1 ct1), sl1⟩)
    (c1 : PySem.W.codeIn K cd1 "is_name" = true)
    (k1 : PySem.W.keepIn K (.ref f1) = true)
    (a2 : PySem.W.nsIn K mainGlobals "is_integer" = some (some (.ref f2)))
    (l2 : K.lookup f2 = some ⟨oc2, od2, .func (PySem.W.fnOf "is_integer" "is_integer" (defArgs s_is_integer) (defBody s_is_integer) (defScope s_is_integer) .none kV2 dc2 pm2 an2 cd2 ct2), sl2⟩)
    (c2 : PySem.W.codeIn K cd2 "is_integer" = true)
    (k2 : PySem.W.keepIn K (.ref f2) = true)
    (a3 : PySem.W.nsIn K mainGlobals "is_step" = some (some (.ref f3)))
    (l3 : K.lookup f3 = some ⟨oc3, od3, .func (PySem.W.fnOf "is_step" "is_step" (defArgs s_is_step) (defBody s_is_step) (defScope s_is_step) .none kV3 dc3 pm3 an3 cd3 ct3), sl3⟩)
    (c3 : PySem.W.codeIn K cd3 "is_step" = true)
    (k3 : PySem.W.keepIn K (.ref f3) = true)
    (a4 : PySem.W.nsIn K mainGlobals "_is_bare" = some (some (.ref f4)))
    (l4 : K.lookup f4 = some ⟨oc4, od4, .func (PySem.W.fnOf "_is_bare" "_is_bare" (defArgs s_is_bare) (defBody s_is_bare) (defScope s_is_bare) .none kV4 dc4 pm4 an4 cd4 ct4), sl4⟩)
    (c4 : PySem.W.codeIn K cd4 "_is_bare" = true)
    (k4 : PySem.W.keepIn K (.ref f4) = true)
    (a5 : PySem.W.nsIn K mainGlobals "_is_named" = some (some (.ref f5)))
    (l5 : K.lookup f5 = some ⟨oc5, od5, .func (PySem.W.fnOf "_is_named" "_is_named" (defArgs s_is_named) (defBody s_is_named) (defScope s_is_named) .none kV5 dc5 pm5 an5 cd5 ct5), sl5⟩)
    (c5 : PySem.W.codeIn K cd5 "_is_named" = true)
    (k5 : PySem.W.keepIn K (.ref f5) = true)
    (a6 : PySem.W.nsIn K mainGlobals "_is_word" = some (some (.ref f6)))
    (l6 : K.lookup f6 = some ⟨oc6, od6, .func (PySem.W.fnOf "_is_word" "_is_word" (defArgs s_is_word) (defBody s_is_word) (defScope s_is_word) .none kV6 dc6 pm6 an6 cd6 ct6), sl6⟩)
    (c6 : PySem.W.codeIn K cd6 "_is_word" = true)
    (k6 : PySem.W.keepIn K (.ref f6) = true)
    (a7 : PySem.W.nsIn K mainGlobals "check_steps" = some (some (.ref f7)))
    (l7 : K.lookup f7 = some ⟨oc7, od7, .func (PySem.W.fnOf "check_steps" "check_steps" (defArgs s_check_steps) (defBody s_check_steps) (defScope s_check_steps) .none kV7 dc7 pm7 an7 cd7 ct7), sl7⟩)
    (c7 : PySem.W.codeIn K cd7 "check_steps" = true)
    (k7 : PySem.W.keepIn K (.ref f7) = true)
    (a8 : PySem.W.nsIn K mainGlobals "locked_behind" = some (some (.ref f8)))
    (l8 : K.lookup f8 = some ⟨oc8, od8, .func (PySem.W.fnOf "locked_behind" "locked_behind" (defArgs s_locked_behind) (defBody s_locked_behind) (defScope s_locked_behind) .none kV8 dc8 pm8 an8 cd8 ct8), sl8⟩)
    (c8 : PySem.W.codeIn K cd8 "locked_behind" = true)
    (k8 : PySem.W.keepIn K (.ref f8) = true)
    (a9 : PySem.W.nsIn K mainGlobals "_checked" = some (some (.ref f9)))
    (l9 : K.lookup f9 = some ⟨oc9, od9, .func (PySem.W.fnOf "_checked" "_checked" (defArgs s_checked) (defBody s_checked) (defScope s_checked) .none kV9 dc9 pm9 an9 cd9 ct9), sl9⟩)
    (c9 : PySem.W.codeIn K cd9 "_checked" = true)
    (k9 : PySem.W.keepIn K (.ref f9) = true)
    (a10 : PySem.W.nsIn K mainGlobals "_law_numbers" = some (some (.ref f10)))
    (l10 : K.lookup f10 = some ⟨oc10, od10, .func (PySem.W.fnOf "_law_numbers" "_law_numbers" (defArgs s_l_numbers) (defBody s_l_numbers) (defScope s_l_numbers) .none kV10 dc10 pm10 an10 cd10 ct10), sl10⟩)
    (c10 : PySem.W.codeIn K cd10 "_law_numbers" = true)
    (k10 : PySem.W.keepIn K (.ref f10) = true)
    (a11 : PySem.W.nsIn K mainGlobals "_law_pool" = some (some (.ref f11)))
    (l11 : K.lookup f11 = some ⟨oc11, od11, .func (PySem.W.fnOf "_law_pool" "_law_pool" (defArgs s_l_pool) (defBody s_l_pool) (defScope s_l_pool) .none kV11 dc11 pm11 an11 cd11 ct11), sl11⟩)
    (c11 : PySem.W.codeIn K cd11 "_law_pool" = true)
    (k11 : PySem.W.keepIn K (.ref f11) = true)
    (a12 : PySem.W.nsIn K mainGlobals "_law_draw" = some (some (.ref f12)))
    (l12 : K.lookup f12 = some ⟨oc12, od12, .func (PySem.W.fnOf "_law_draw" "_law_draw" (defArgs s_l_draw) (defBody s_l_draw) (defScope s_l_draw) .none kV12 dc12 pm12 an12 cd12 ct12), sl12⟩)
    (c12 : PySem.W.codeIn K cd12 "_law_draw" = true)
    (k12 : PySem.W.keepIn K (.ref f12) = true)
    (a13 : PySem.W.nsIn K mainGlobals "_law_pick" = some (some (.ref f13)))
    (l13 : K.lookup f13 = some ⟨oc13, od13, .func (PySem.W.fnOf "_law_pick" "_law_pick" (defArgs s_l_pick) (defBody s_l_pick) (defScope s_l_pick) .none kV13 dc13 pm13 an13 cd13 ct13), sl13⟩)
    (c13 : PySem.W.codeIn K cd13 "_law_pick" = true)
    (k13 : PySem.W.keepIn K (.ref f13) = true)
    (a14 : PySem.W.nsIn K mainGlobals "_law_wrong" = some (some (.ref f14)))
    (l14 : K.lookup f14 = some ⟨oc14, od14, .func (PySem.W.fnOf "_law_wrong" "_law_wrong" (defArgs s_l_wrong) (defBody s_l_wrong) (defScope s_l_wrong) .none kV14 dc14 pm14 an14 cd14 ct14), sl14⟩)
    (c14 : PySem.W.codeIn K cd14 "_law_wrong" = true)
    (k14 : PySem.W.keepIn K (.ref f14) = true)
    (a15 : PySem.W.nsIn K mainGlobals "_law_heard" = some (some (.ref f15)))
    (l15 : K.lookup f15 = some ⟨oc15, od15, .func (PySem.W.fnOf "_law_heard" "_law_heard" (defArgs s_l_heard) (defBody s_l_heard) (defScope s_l_heard) .none kV15 dc15 pm15 an15 cd15 ct15), sl15⟩)
    (c15 : PySem.W.codeIn K cd15 "_law_heard" = true)
    (k15 : PySem.W.keepIn K (.ref f15) = true)
    (a16 : PySem.W.nsIn K mainGlobals "_law_refused" = some (some (.ref f16)))
    (l16 : K.lookup f16 = some ⟨oc16, od16, .func (PySem.W.fnOf "_law_refused" "_law_refused" (defArgs s_l_refused) (defBody s_l_refused) (defScope s_l_refused) .none kV16 dc16 pm16 an16 cd16 ct16), sl16⟩)
    (c16 : PySem.W.codeIn K cd16 "_law_refused" = true)
    (k16 : PySem.W.keepIn K (.ref f16) = true)
    (a17 : PySem.W.nsIn K mainGlobals "_law_right" = some (some (.ref f17)))
    (l17 : K.lookup f17 = some ⟨oc17, od17, .func (PySem.W.fnOf "_law_right" "_law_right" (defArgs s_l_right) (defBody s_l_right) (defScope s_l_right) .none kV17 dc17 pm17 an17 cd17 ct17), sl17⟩)
    (c17 : PySem.W.codeIn K cd17 "_law_right" = true)
    (k17 : PySem.W.keepIn K (.ref f17) = true)
    (a18 : PySem.W.nsIn K mainGlobals "law" = some (some (.ref f18)))
    (l18 : K.lookup f18 = some ⟨oc18, od18, .func (PySem.W.fnOf "law" "law" (defArgs s_law) (defBody s_law) (defScope s_law) .none kV18 dc18 pm18 an18 cd18 ct18), sl18⟩)
    (c18 : PySem.W.codeIn K cd18 "law" = true)
    (k18 : PySem.W.keepIn K (.ref f18) = true)
    (l19 : K.lookup f19 = some ⟨oc19, od19, .func (PySem.W.fnOf "__init__" "InvalidStep.__init__" (defArgs sIS_init) (defBody sIS_init) (defScope sIS_init) .none kV19 dc19 pm19 an19 cd19 ct19), sl19⟩)
    (c19 : PySem.W.codeIn K cd19 "InvalidStep.__init__" = true)
    (k19 : PySem.W.keepIn K (.ref f19) = true)
    (l20 : K.lookup f20 = some ⟨oc20, od20, .func (PySem.W.fnOf "__init__" "InvalidNumber.__init__" (defArgs sIN_init) (defBody sIN_init) (defScope sIN_init) .none kV20 dc20 pm20 an20 cd20 ct20), sl20⟩)
    (c20 : PySem.W.codeIn K cd20 "InvalidNumber.__init__" = true)
    (k20 : PySem.W.keepIn K (.ref f20) = true)
    (a21 : PySem.W.findIn K (.ref C) "__init__" = some (some (.ref f21)))
    (i21 : PySem.W.isFn K (.ref f21) = true)
    (l21 : K.lookup f21 = some ⟨oc21, od21, .func (PySem.W.fnOf "__init__" "PullRow.__init__" (defArgs sPR_init) (defBody sPR_init) (defScope sPR_init) .none kV21 dc21 pm21 an21 cd21 ct21), sl21⟩)
    (c21 : PySem.W.codeIn K cd21 "PullRow.__init__" = true)
    (k21 : PySem.W.keepIn K (.ref f21) = true)
    (l22 : K.lookup f22 = some ⟨oc22, od22, .func (PySem.W.fnOf "of" "PullRow.of" (defArgs sPR_of) (defBody sPR_of) (defScope sPR_of) .none kV22 dc22 pm22 an22 cd22 ct22), sl22⟩)
    (c22 : PySem.W.codeIn K cd22 "PullRow.of" = true)
    (k22 : PySem.W.keepIn K (.ref f22) = true)
    (l23 : K.lookup f23 = some ⟨oc23, od23, .func (PySem.W.fnOf "parts" "PullRow.parts" (defArgs sPR_parts) (defBody sPR_parts) (defScope sPR_parts) .none kV23 dc23 pm23 an23 cd23 ct23), sl23⟩)
    (c23 : PySem.W.codeIn K cd23 "PullRow.parts" = true)
    (k23 : PySem.W.keepIn K (.ref f23) = true)
    (a24 : PySem.W.findIn K (.ref C) "__len__" = some (some (.ref f24)))
    (i24 : PySem.W.isFn K (.ref f24) = true)
    (l24 : K.lookup f24 = some ⟨oc24, od24, .func (PySem.W.fnOf "__len__" "PullRow.__len__" (defArgs sPR_len) (defBody sPR_len) (defScope sPR_len) .none kV24 dc24 pm24 an24 cd24 ct24), sl24⟩)
    (c24 : PySem.W.codeIn K cd24 "PullRow.__len__" = true)
    (k24 : PySem.W.keepIn K (.ref f24) = true)
    (a25 : PySem.W.findIn K (.ref C) "first" = some (some (.ref f25)))
    (i25 : PySem.W.isFn K (.ref f25) = true)
    (l25 : K.lookup f25 = some ⟨oc25, od25, .func (PySem.W.fnOf "first" "PullRow.first" (defArgs sPR_first) (defBody sPR_first) (defScope sPR_first) .none kV25 dc25 pm25 an25 cd25 ct25), sl25⟩)
    (c25 : PySem.W.codeIn K cd25 "PullRow.first" = true)
    (k25 : PySem.W.keepIn K (.ref f25) = true)
    (a26 : PySem.W.findIn K (.ref C) "has_lock" = some (some (.ref f26)))
    (i26 : PySem.W.isFn K (.ref f26) = true)
    (l26 : K.lookup f26 = some ⟨oc26, od26, .func (PySem.W.fnOf "has_lock" "PullRow.has_lock" (defArgs sPR_lock) (defBody sPR_lock) (defScope sPR_lock) .none kV26 dc26 pm26 an26 cd26 ct26), sl26⟩)
    (c26 : PySem.W.codeIn K cd26 "PullRow.has_lock" = true)
    (k26 : PySem.W.keepIn K (.ref f26) = true)
    (a27 : PySem.W.findIn K (.ref C) "is_behind" = some (some (.ref f27)))
    (i27 : PySem.W.isFn K (.ref f27) = true)
    (l27 : K.lookup f27 = some ⟨oc27, od27, .func (PySem.W.fnOf "is_behind" "PullRow.is_behind" (defArgs sPR_behind) (defBody sPR_behind) (defScope sPR_behind) .none kV27 dc27 pm27 an27 cd27 ct27), sl27⟩)
    (c27 : PySem.W.codeIn K cd27 "PullRow.is_behind" = true)
    (k27 : PySem.W.keepIn K (.ref f27) = true)
    (z_max : PySem.W.nsIn K mainGlobals "max" = some none)
    (z_range : PySem.W.nsIn K mainGlobals "range" = some none)
    (z_len : PySem.W.nsIn K mainGlobals "len" = some none)
    (z_int : PySem.W.nsIn K mainGlobals "int" = some none)
    (z_bool : PySem.W.nsIn K mainGlobals "bool" = some none)
    (z_isinstance : PySem.W.nsIn K mainGlobals "isinstance" = some none)
    (z_str : PySem.W.nsIn K mainGlobals "str" = some none)
    (z_all : PySem.W.nsIn K mainGlobals "all" = some none)
    (z_tuple : PySem.W.nsIn K mainGlobals "tuple" = some none)
    (z_list : PySem.W.nsIn K mainGlobals "list" = some none)
    (z_enumerate : PySem.W.nsIn K mainGlobals "enumerate" = some none)
    (z_repr : PySem.W.nsIn K mainGlobals "repr" = some none)
    (y_0 : PySem.W.nsIn K mainGlobals "_LONGEST_NAME" = some (some (.int 8 lt0)))
    (y_1 : PySem.W.nsIn K mainGlobals "_MOST_STEPS" = some (some (.int 9 lt1)))
    (y_t4 : PySem.W.nsIn K mainGlobals "_BARE_STEPS" = some (some (.ref t4)))
    (x_t4 : K.lookup t4 = some ⟨.type "tuple", tot4, .seq tit4 tnt4, tst4⟩)
    (v_t4 : tit4.toList.map absV = (wSteps.map V.str).map some)
    (y_t5 : PySem.W.nsIn K mainGlobals "_NAMED_STEPS" = some (some (.ref t5)))
    (x_t5 : K.lookup t5 = some ⟨.type "tuple", tot5, .seq tit5 tnt5, tst5⟩)
    (v_t5 : tit5.toList.map absV = (wNSteps.map V.str).map some)
    (y_t6 : PySem.W.nsIn K mainGlobals "_ONCE" = some (some (.ref t6)))
    (x_t6 : K.lookup t6 = some ⟨.type "tuple", tot6, .seq tit6 tnt6, tst6⟩)
    (v_t6 : tit6.toList.map absV = (wOnce.map V.str).map some)
    : ∃ fd : FuncData, (∀ (s : Shared) (v : Value), BindsTo s fd ⟨[v], []⟩ [("_law_script", v)]) ∧ ∀ base : Heap, K.In base → base.Ns mainGlobals mg → FnOk l.prog w K mg base CX0 9 fa fd ["_law_script"] (spLaw K) := by
  have e := hfa.symm.trans (PySem.W.mg_of X G a18)
  cases e
  have T : Txt K mg lt0 lt1 t4 t5 t6 := { m_max := PySem.W.mg_none_of X G z_max, m_range := PySem.W.mg_none_of X G z_range, m_len := PySem.W.mg_none_of X G z_len, m_int := PySem.W.mg_none_of X G z_int, m_bool := PySem.W.mg_none_of X G z_bool, m_isinstance := PySem.W.mg_none_of X G z_isinstance, m_str := PySem.W.mg_none_of X G z_str, m_all := PySem.W.mg_none_of X G z_all, m_tuple := PySem.W.mg_none_of X G z_tuple, m_list := PySem.W.mg_none_of X G z_list, m_enumerate := PySem.W.mg_none_of X G z_enumerate, m_repr := PySem.W.mg_none_of X G z_repr, c_LONGEST_NAME := PySem.W.mg_of X G y_0, c_MOST_STEPS := PySem.W.mg_of X G y_1, c_BARE_STEPS := PySem.W.mg_of X G y_t4, c_NAMED_STEPS := PySem.W.mg_of X G y_t5, c_ONCE := PySem.W.mg_of X G y_t6, w4 := tup_of x_t4 v_t4 (by decide), w5 := tup_of x_t5 v_t5 (by decide), w6 := tup_of x_t6 v_t6 (by decide) }
  have CT : ClT K mg C := ⟨PySem.W.mg_of X G aC, ⟨pgC, hdC, poC, saC⟩, nP, nL⟩
  have TS : ExT K mg "InvalidStep" "index" S f19 := exT_of X G aS xS rfl saS exS tyS kpS noS gaS ggS hdS iiS tiS icS ssS
  have TN : ExT K mg "InvalidNumber" "value" N f20 := exT_of X G aN xN rfl saN exN tyN kpN noN gaN ggN hdN iiN tiN icN ssN
  have F_is_name := fun_mk (st := s_is_name) l1 c1 k1
  have b_is_name := F_is_name.binds (ps := ["value"]) fun _ _ _ _ _ _ us hl => match us, hl with | [_], _ => rfl
  have g_is_name := PySem.W.mg_of X G a1
  have F_is_integer := fun_mk (st := s_is_integer) l2 c2 k2
  have b_is_integer := F_is_integer.binds (ps := ["value", "lowest", "highest"]) fun _ _ _ _ _ _ us hl => match us, hl with | [_, _, _], _ => rfl
  have g_is_integer := PySem.W.mg_of X G a2
  have F_is_step := fun_mk (st := s_is_step) l3 c3 k3
  have b_is_step := F_is_step.binds (ps := ["value"]) fun _ _ _ _ _ _ us hl => match us, hl with | [_], _ => rfl
  have g_is_step := PySem.W.mg_of X G a3
  have F_is_bare := fun_mk (st := s_is_bare) l4 c4 k4
  have b_is_bare := F_is_bare.binds (ps := ["value", "words"]) fun _ _ _ _ _ _ us hl => match us, hl with | [_, _], _ => rfl
  have g_is_bare := PySem.W.mg_of X G a4
  have F_is_named := fun_mk (st := s_is_named) l5 c5 k5
  have b_is_named := F_is_named.binds (ps := ["value", "words"]) fun _ _ _ _ _ _ us hl => match us, hl with | [_, _], _ => rfl
  have g_is_named := PySem.W.mg_of X G a5
  have F_is_word := fun_mk (st := s_is_word) l6 c6 k6
  have b_is_word := F_is_word.binds (ps := ["value", "words"]) fun _ _ _ _ _ _ us hl => match us, hl with | [_, _], _ => rfl
  have g_is_word := PySem.W.mg_of X G a6
  have F_check_steps := fun_mk (st := s_check_steps) l7 c7 k7
  have b_check_steps := F_check_steps.binds (ps := ["parts"]) fun _ _ _ _ _ _ us hl => match us, hl with | [_], _ => rfl
  have g_check_steps := PySem.W.mg_of X G a7
  have F_locked_behind := fun_mk (st := s_locked_behind) l8 c8 k8
  have b_locked_behind := F_locked_behind.binds (ps := ["steps"]) fun _ _ _ _ _ _ us hl => match us, hl with | [_], _ => rfl
  have g_locked_behind := PySem.W.mg_of X G a8
  have F_checked := fun_mk (st := s_checked) l9 c9 k9
  have b_checked := F_checked.binds (ps := ["value", "highest"]) fun _ _ _ _ _ _ us hl => match us, hl with | [_, _], _ => rfl
  have g_checked := PySem.W.mg_of X G a9
  have F_l_numbers := fun_mk (st := s_l_numbers) l10 c10 k10
  have b_l_numbers := F_l_numbers.binds (ps := ["_law_cell", "_law_salt", "_law_sizes"]) fun _ _ _ _ _ _ us hl => match us, hl with | [_, _, _], _ => rfl
  have g_l_numbers := PySem.W.mg_of X G a10
  have F_l_pool := fun_mk (st := s_l_pool) l11 c11 k11
  have b_l_pool := F_l_pool.binds (ps := ["_law_cell", "_law_salt", "_law_many"]) fun _ _ _ _ _ _ us hl => match us, hl with | [_, _, _], _ => rfl
  have g_l_pool := PySem.W.mg_of X G a11
  have F_l_draw := fun_mk (st := s_l_draw) l12 c12 k12
  have b_l_draw := F_l_draw.binds (ps := ["_law_pool_here", "_law_many"]) fun _ _ _ _ _ _ us hl => match us, hl with | [_, _], _ => rfl
  have g_l_draw := PySem.W.mg_of X G a12
  have F_l_pick := fun_mk (st := s_l_pick) l13 c13 k13
  have b_l_pick := F_l_pick.binds (ps := ["_law_pool_here", "_law_some"]) fun _ _ _ _ _ _ us hl => match us, hl with | [_, _], _ => rfl
  have g_l_pick := PySem.W.mg_of X G a13
  have F_l_wrong := fun_mk (st := s_l_wrong) l14 c14 k14
  have b_l_wrong := F_l_wrong.binds (ps := ["_law_steps"]) fun _ _ _ _ _ _ us hl => match us, hl with | [_], _ => rfl
  have g_l_wrong := PySem.W.mg_of X G a14
  have F_l_heard := fun_mk (st := s_l_heard) l15 c15 k15
  have b_l_heard := F_l_heard.binds (ps := ["_law_steps"]) fun _ _ _ _ _ _ us hl => match us, hl with | [_], _ => rfl
  have g_l_heard := PySem.W.mg_of X G a15
  have F_l_refused := fun_mk (st := s_l_refused) l16 c16 k16
  have b_l_refused := F_l_refused.binds (ps := ["_law_row", "_law_value"]) fun _ _ _ _ _ _ us hl => match us, hl with | [_, _], _ => rfl
  have g_l_refused := PySem.W.mg_of X G a16
  have F_l_right := fun_mk (st := s_l_right) l17 c17 k17
  have b_l_right := F_l_right.binds (ps := ["_law_row", "_law_steps"]) fun _ _ _ _ _ _ us hl => match us, hl with | [_, _], _ => rfl
  have g_l_right := PySem.W.mg_of X G a17
  have F_law := fun_mk (st := s_law) l18 c18 k18
  have F_is_init := fun_mk (st := sIS_init) l19 c19 k19
  have b_is_init := F_is_init.binds (ps := ["self", "index"]) fun _ _ _ _ _ _ us hl => match us, hl with | [_, _], _ => rfl
  have F_in_init := fun_mk (st := sIN_init) l20 c20 k20
  have b_in_init := F_in_init.binds (ps := ["self", "value"]) fun _ _ _ _ _ _ us hl => match us, hl with | [_, _], _ => rfl
  have F_pr_init := fun_mk (st := sPR_init) l21 c21 k21
  have F_pr_of := fun_mk (st := sPR_of) l22 c22 k22
  have b_pr_of := F_pr_of.binds (ps := ["steps"]) fun _ _ _ _ _ _ us hl => match us, hl with | [_], _ => rfl
  have F_pr_parts := fun_mk (st := sPR_parts) l23 c23 k23
  have b_pr_parts := F_pr_parts.binds (ps := ["self"]) fun _ _ _ _ _ _ us hl => match us, hl with | [_], _ => rfl
  have F_pr_len := fun_mk (st := sPR_len) l24 c24 k24
  have b_pr_len := F_pr_len.binds (ps := ["self"]) fun _ _ _ _ _ _ us hl => match us, hl with | [_], _ => rfl
  have F_pr_first := fun_mk (st := sPR_first) l25 c25 k25
  have F_pr_lock := fun_mk (st := sPR_lock) l26 c26 k26
  have b_pr_lock := F_pr_lock.binds (ps := ["self", "done"]) fun _ _ _ _ _ _ us hl => match us, hl with | [_, _], _ => rfl
  have F_pr_behind := fun_mk (st := sPR_behind) l27 c27 k27
  have M : Mk K C f21 := ⟨mkC, a21, i21, kpC⟩
  have RD : ClX.CRead K C (.type "type") := ⟨rdC, gaC⟩
  have SM : SMet K C (.type "type") "of" sm f22 := ⟨sm1, ⟨_, sm2⟩, k22⟩
  have PP : PropOf K C "parts" pp f23 := ⟨pp1, pp2, pp3, ⟨_, pp4⟩⟩
  have ML : Meth K C "has_lock" f26 := ⟨a26, i26, k26⟩
  have MB : Meth K C "is_behind" f27 := ⟨a27, i27, k27⟩
  have MF : Meth K C "first" f25 := ⟨a25, i25, k25⟩
  refine ⟨PySem.W.fnOf "law" "law" (defArgs s_law) (defBody s_law) (defScope s_law) .none kV18 dc18 pm18 an18 cd18 ct18, fun s v => .of_eq rfl, fun base _ _ => ?_⟩
  have G_is_word : FnOk l.prog w K mg base CX0 1 f6 _ ["value", "words"] (spChkW K isWordP) := ok_is_word F_is_word T
  have G_is_name : FnOk l.prog w K mg base CX0 1 f1 _ ["value"] (spChk K isNameP) := ok_is_name F_is_name T
  have G_is_bare : FnOk l.prog w K mg base CX0 2 f4 _ ["value", "words"] (spChkW K isBareP) := ok_is_bare F_is_bare T F_is_word b_is_word g_is_word G_is_word
  have G_is_named : FnOk l.prog w K mg base CX0 2 f5 _ ["value", "words"] (spChkW K isNamedP) := ok_is_named F_is_named T F_is_word b_is_word g_is_word G_is_word F_is_name b_is_name g_is_name G_is_name
  have G_is_step : FnOk l.prog w K mg base CX0 3 f3 _ ["value"] (spChk K isStepP) := ok_is_step F_is_step T F_is_bare b_is_bare g_is_bare G_is_bare F_is_named b_is_named g_is_named G_is_named
  have G_is_integer : FnOk l.prog w K mg base CX0 1 f2 _ ["value", "lowest", "highest"] (spIsInt K) := ok_is_int F_is_integer T
  have G_is_init : FnOk l.prog w K mg base CX0 1 f19 _ ["self", "index"] (spExI S "index") := ok_is_init F_is_init TS
  have G_in_init : FnOk l.prog w K mg base CX0 1 f20 _ ["self", "value"] (spExI N "value") := ok_in_init F_in_init TN
  have G_checked : FnOk l.prog w K mg base (L2.CX l.prog w) 3 f9 _ ["value", "highest"] (spChecked K N) := ok_checked F_checked TN F_is_integer b_is_integer g_is_integer G_is_integer b_in_init G_in_init
  have G_locked_behind : FnOk l.prog w K mg base CX0 1 f8 _ ["steps"] (spLocked K) := ok_locked_behind F_locked_behind 
  have G_check_steps : FnOk l.prog w K mg base (L2.CX l.prog w) 4 f7 _ ["parts"] (spCheck K S) := ok_check_steps F_check_steps T TS F_is_step b_is_step g_is_step G_is_step F_locked_behind b_locked_behind g_locked_behind G_locked_behind b_is_init G_is_init
  have G_pr_init : FnR l.prog w K mg base (L2.CX l.prog w) 5 f21 (spStar 1 (spRowI K C S)) := ok_pr_init F_pr_init T CT F_check_steps b_check_steps g_check_steps G_check_steps F_locked_behind b_locked_behind g_locked_behind G_locked_behind
  have G_pr_of : FnOk l.prog w K mg base (L2.CX l.prog w) 7 f22 _ ["steps"] (spOf K C S) := ok_pr_of F_pr_of T CT TS M G_pr_init b_is_init G_is_init
  have G_pr_parts : FnOk l.prog w K mg base CX0 1 f23 _ ["self"] (getSp C "_parts") := ok_pr_parts F_pr_parts CT
  have G_pr_len : FnOk l.prog w K mg base CX0 1 f24 _ ["self"] (spLen K C) := ok_pr_len F_pr_len T CT
  have G_pr_lock : FnOk l.prog w K mg base (L2.CX l.prog w) 4 f26 _ ["self", "done"] (spLock K C N) := ok_pr_lock F_pr_lock T CT F_checked b_checked g_checked G_checked
  have G_pr_behind : FnR l.prog w K mg base (L2.CX l.prog w) 4 f27 (spStar 2 (spBehind K C N)) := ok_pr_behind F_pr_behind T CT F_checked b_checked g_checked G_checked F_is_step b_is_step g_is_step G_is_step
  have G_pr_first : FnR l.prog w K mg base CX0 4 f25 (spStar 1 (spFirst K C)) := ok_pr_first F_pr_first CT F_is_step b_is_step g_is_step G_is_step
  have G_l_numbers : FnOk l.prog w K mg base CX0 1 f10 _ ["_law_cell", "_law_salt", "_law_sizes"] (spNum K) := ok_num F_l_numbers T.m_max T.m_range T.m_len
  have G_l_pool : FnOk l.prog w K mg base CX0 2 f11 _ ["_law_cell", "_law_salt", "_law_many"] (spPool K) := ok_l_pool F_l_pool T.toBlt F_l_numbers b_l_numbers g_l_numbers G_l_numbers
  have G_l_draw : FnOk l.prog w K mg base CX0 1 f12 _ ["_law_pool_here", "_law_many"] (spDraw K) := ok_l_draw F_l_draw T.toBlt
  have G_l_pick : FnOk l.prog w K mg base CX0 2 f13 _ ["_law_pool_here", "_law_some"] (spPick K) := ok_l_pick F_l_pick T.toBlt F_l_draw b_l_draw g_l_draw G_l_draw
  have G_l_wrong : FnOk l.prog w K mg base CX0 4 f14 _ ["_law_steps"] (spWrong K) := ok_l_wrong F_l_wrong T F_is_step b_is_step g_is_step G_is_step
  have G_l_heard : FnOk l.prog w K mg base CX0 8 f15 _ ["_law_steps"] (spHeard K C) := ok_l_heard F_l_heard CT TS RD SM b_pr_of G_pr_of
  have G_l_refused : FnOk l.prog w K mg base CX0 5 f16 _ ["_law_row", "_law_value"] (spRefused K C) := ok_l_refused F_l_refused T CT TN ML b_pr_lock G_pr_lock MB G_pr_behind
  have G_l_right : FnOk l.prog w K mg base CX0 6 f17 _ ["_law_row", "_law_steps"] (spRight K C) := ok_l_right F_l_right T CT ML b_pr_lock G_pr_lock MB G_pr_behind MF G_pr_first PP b_pr_parts G_pr_parts a24 i24 b_pr_len G_pr_len F_l_refused b_l_refused g_l_refused G_l_refused
  exact ok_l_law F_law T CT F_l_pool b_l_pool g_l_pool G_l_pool F_l_draw b_l_draw g_l_draw G_l_draw F_l_pick b_l_pick g_l_pick G_l_pick F_l_wrong b_l_wrong g_l_wrong G_l_wrong F_l_heard b_l_heard g_l_heard G_l_heard F_l_right b_l_right g_l_right G_l_right M G_pr_init PP b_pr_parts G_pr_parts a24 i24 b_pr_len G_pr_len
theorem walk {l : PySem.W.OpenLaw} {q : Program} {loose : List Str} {XP : (Str → Option Value) → Heap → Prop} {YP : World → Heap → Prop} {d : DefRec} {K : Params → PySem.W.Frag} (hn : l.most = some 63) (hdf : d.params.defaults = [])
    (hY : ∀ (w : World) (h : Heap), YP w h → (K w.params).In h)
    (F : ∀ (w : World) (mg : Str → Option Value) (fa : Addr) (h : Heap), (K w.params).In h → h.Ns mainGlobals mg → mg d.name = some (.ref fa) →
      ∃ fd : FuncData, (∀ (s : Shared) (u : Value), BindsTo s fd ⟨[u], []⟩ [("_law_script", u)]) ∧ ∀ base : Heap, (K w.params).In base → base.Ns mainGlobals mg → FnOk l.prog w (K w.params) mg base CX0 9 fa fd ["_law_script"] (spLaw (K w.params))) :
    PySem.W.WalkO q loose XP YP l.row.toRowW d [] (fun f vs => PySem.call f vs) :=
  L2.walk_of (n := 63) (k := 9) (x := "_law_script") (CX := fun _ => CX0) (sp := fun w => spLaw (K w.params)) hn (by decide) hdf ⟨rfl, by decide, by decide⟩ hY F (fun _ _ a ns hl _ hS => ⟨a, ns, rfl, hS, hl, fun _ => rfl⟩) fun _ _ _ _ _ z => z
end K06

open PySem PySem.W PyProof.Rows in
set_option maxRecDepth 100000 in
set_option maxHeartbeats 0 in
theorem PySem.Challenge.cw_pulledout_k06_pullers_rows_holds : PySem.Challenge.rw_pulledout_k06_pullers_rows.Holds := by
  w_on; o_law; k_head; (case hw => w_witness2)
  k_fill
  refine K06.walk (l := PySem.Challenge.rw_pulledout_k06_pullers_rows) rfl rfl (fun w h Y => PySem.W.kIn_of Y) ?F
  case F =>
    intro w mg fa h KX G hmg
    refine' K06.all_mk KX G hmg ?aC ?aS ?xS ?saS ?exS ?tyS ?kpS ?noS ?gaS ?ggS ?hdS ?iiS ?tiS ?icS ?ssS ?aN ?xN ?saN ?exN ?tyN ?kpN ?noN ?gaN ?ggN ?hdN ?iiN ?tiN ?icN ?ssN ?pgC ?hdC ?poC ?saC ?mkC ?kpC ?nP ?nL ?rdC ?gaC ?sm1 ?sm2 ?pp1 ?pp2 ?pp3 ?pp4 ?a1 ?l1 ?c1 ?k1 ?a2 ?l2 ?c2 ?k2 ?a3 ?l3 ?c3 ?k3 ?a4 ?l4 ?c4 ?k4 ?a5 ?l5 ?c5 ?k5 ?a6 ?l6 ?c6 ?k6 ?a7 ?l7 ?c7 ?k7 ?a8 ?l8 ?c8 ?k8 ?a9 ?l9 ?c9 ?k9 ?a10 ?l10 ?c10 ?k10 ?a11 ?l11 ?c11 ?k11 ?a12 ?l12 ?c12 ?k12 ?a13 ?l13 ?c13 ?k13 ?a14 ?l14 ?c14 ?k14 ?a15 ?l15 ?c15 ?k15 ?a16 ?l16 ?c16 ?k16 ?a17 ?l17 ?c17 ?k17 ?a18 ?l18 ?c18 ?k18 ?l19 ?c19 ?k19 ?l20 ?c20 ?k20 ?a21 ?i21 ?l21 ?c21 ?k21 ?l22 ?c22 ?k22 ?l23 ?c23 ?k23 ?a24 ?i24 ?l24 ?c24 ?k24 ?a25 ?i25 ?l25 ?c25 ?k25 ?a26 ?i26 ?l26 ?c26 ?k26 ?a27 ?i27 ?l27 ?c27 ?k27 ?z_max ?z_range ?z_len ?z_int ?z_bool ?z_isinstance ?z_str ?z_all ?z_tuple ?z_list ?z_enumerate ?z_repr ?y_0 ?y_1 ?y_t4 ?x_t4 ?v_t4 ?y_t5 ?x_t5 ?v_t5 ?y_t6 ?x_t6 ?v_t6
    (case aC => k_is)
    (case aS => k_is)
    (case xS => k_is)
    (case saS => k_is)
    (case exS => k_is)
    (case tyS => k_is)
    (case kpS => k_is)
    (case noS => k_is)
    (case gaS => k_is)
    (case ggS => k_is)
    (case hdS => k_is)
    (case iiS => k_is)
    (case tiS => k_is)
    (case icS => k_is)
    (case ssS => first | rfl | k_is)
    (case aN => k_is)
    (case xN => k_is)
    (case saN => k_is)
    (case exN => k_is)
    (case tyN => k_is)
    (case kpN => k_is)
    (case noN => k_is)
    (case gaN => k_is)
    (case ggN => k_is)
    (case hdN => k_is)
    (case iiN => k_is)
    (case tiN => k_is)
    (case icN => k_is)
    (case ssN => first | rfl | k_is)
    (case pgC => k_is)
    (case hdC => k_is)
    (case poC => k_is)
    (case saC => k_is)
    (case mkC => k_is)
    (case kpC => k_is)
    (case nP => k_is)
    (case nL => k_is)
    (case rdC => k_is)
    (case gaC => k_is)
    (case sm1 => k_is)
    (case sm2 => k_is)
    (case pp1 => k_is)
    (case pp2 => k_is)
    (case pp3 => k_is)
    (case pp4 => k_is)
    (case a1 => k_is)
    (case l1 => k_is)
    (case c1 => k_is)
    (case k1 => k_is)
    (case a2 => k_is)
    (case l2 => k_is)
    (case c2 => k_is)
    (case k2 => k_is)
    (case a3 => k_is)
    (case l3 => k_is)
    (case c3 => k_is)
    (case k3 => k_is)
    (case a4 => k_is)
    (case l4 => k_is)
    (case c4 => k_is)
    (case k4 => k_is)
    (case a5 => k_is)
    (case l5 => k_is)
    (case c5 => k_is)
    (case k5 => k_is)
    (case a6 => k_is)
    (case l6 => k_is)
    (case c6 => k_is)
    (case k6 => k_is)
    (case a7 => k_is)
    (case l7 => k_is)
    (case c7 => k_is)
    (case k7 => k_is)
    (case a8 => k_is)
    (case l8 => k_is)
    (case c8 => k_is)
    (case k8 => k_is)
    (case a9 => k_is)
    (case l9 => k_is)
    (case c9 => k_is)
    (case k9 => k_is)
    (case a10 => k_is)
    (case l10 => k_is)
    (case c10 => k_is)
    (case k10 => k_is)
    (case a11 => k_is)
    (case l11 => k_is)
    (case c11 => k_is)
    (case k11 => k_is)
    (case a12 => k_is)
    (case l12 => k_is)
    (case c12 => k_is)
    (case k12 => k_is)
    (case a13 => k_is)
    (case l13 => k_is)
    (case c13 => k_is)
    (case k13 => k_is)
    (case a14 => k_is)
    (case l14 => k_is)
    (case c14 => k_is)
    (case k14 => k_is)
    (case a15 => k_is)
    (case l15 => k_is)
    (case c15 => k_is)
    (case k15 => k_is)
    (case a16 => k_is)
    (case l16 => k_is)
    (case c16 => k_is)
    (case k16 => k_is)
    (case a17 => k_is)
    (case l17 => k_is)
    (case c17 => k_is)
    (case k17 => k_is)
    (case a18 => k_is)
    (case l18 => k_is)
    (case c18 => k_is)
    (case k18 => k_is)
    (case l19 => k_is)
    (case c19 => k_is)
    (case k19 => k_is)
    (case l20 => k_is)
    (case c20 => k_is)
    (case k20 => k_is)
    (case a21 => k_is)
    (case i21 => k_is)
    (case l21 => k_is)
    (case c21 => k_is)
    (case k21 => k_is)
    (case l22 => k_is)
    (case c22 => k_is)
    (case k22 => k_is)
    (case l23 => k_is)
    (case c23 => k_is)
    (case k23 => k_is)
    (case a24 => k_is)
    (case i24 => k_is)
    (case l24 => k_is)
    (case c24 => k_is)
    (case k24 => k_is)
    (case a25 => k_is)
    (case i25 => k_is)
    (case l25 => k_is)
    (case c25 => k_is)
    (case k25 => k_is)
    (case a26 => k_is)
    (case i26 => k_is)
    (case l26 => k_is)
    (case c26 => k_is)
    (case k26 => k_is)
    (case a27 => k_is)
    (case i27 => k_is)
    (case l27 => k_is)
    (case c27 => k_is)
    (case k27 => k_is)
    (case z_max => k_is)
    (case z_range => k_is)
    (case z_len => k_is)
    (case z_int => k_is)
    (case z_bool => k_is)
    (case z_isinstance => k_is)
    (case z_str => k_is)
    (case z_all => k_is)
    (case z_tuple => k_is)
    (case z_list => k_is)
    (case z_enumerate => k_is)
    (case z_repr => k_is)
    (case y_0 => k_is)
    (case y_1 => k_is)
    (case y_t4 => k_is)
    (case x_t4 => k_is)
    (case v_t4 => rfl)
    (case y_t5 => k_is)
    (case x_t5 => k_is)
    (case v_t5 => rfl)
    (case y_t6 => k_is)
    (case x_t6 => k_is)
    (case v_t6 => rfl)

